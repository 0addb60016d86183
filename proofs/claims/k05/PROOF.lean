import PyProof.Rows.All
import Wide.All
import OpenK.AllK
import Wide.FinOn
import HandS.ForMost
import HandS.Exc
import HandS.ExcInit
import HandS.IsInst
import HandS.TupAny
import HandS.Conv
import HandS.Wide
import HandS.Deep
import KE.KExcIs
import HandS.Gcd
import HandS.Evl
import HandS.Walk
import HandS.SlotsOwn
import HandS.OwnEq
import KE.KOpsOwn
import PyProof.TwoTypes
import PyProof.EqKinds
import HandS.ExcValue
import HandS.Lambda
import KE.KEqDict
import HandS.EndTab
import HandS.ClsMeth
import HandS.Property
import HandS.Codes
import HandS.StrMore
import KE.OsScanText
import KE.IntTextLaws
import HandS.Comp
import HandS.Nested
import PyProof.InstNe
import HandS.Defaults
import HandS.WordsExc
import HandS.Style
import PySem.Challenge.RW_seenabout_k05_lines
set_option Elab.async false
set_option linter.all false
set_option maxRecDepth 100000
set_option maxHeartbeats 4000000
/-! A layer over HandS: defs that are entered while nothing shows itself (so that repr may be told). -/
namespace G
open PySem PySem.Spec PyProof.Rows L2

abbrev Quiet (A : Around) : Prop := A.guards = some []

structure Fn (P : Program) (w : World) (K : PySem.W.Frag) (mg : Str → Option Value) (base : Heap) (CX : CXT) (k : Nat) (f : Addr) (fd : FuncData) (ps : List Str) (sp : Sp) : Prop where
  len : ∀ vs H Q E, sp vs H Q E → vs.length = ps.length
  run : ∀ (A : Around) (outer : List Env) (s : Shared) (H : Hp) (args : Args) (us : List Value) (vs : List V) (Q : VK) (E : XK), Quiet A → Room k A →
    Env0 P w K mg base A outer s H → BindsTo s fd args (ps.zip us) → Vals vs us → sp vs H Q E → codeAny (model P w) A (.call (.ref f) args) (CR CX outer P w H s Q E) s

section
variable {P : Program} {w : World} {K : PySem.W.Frag} {mg : Str → Option Value} {base : Heap} {CX : CXT}
theorem Fn.mono {j k : Nat} {f : Addr} {fd : FuncData} {ps : List Str} {sp : Sp} (F : Fn P w K mg base CX j f fd ps sp) (h : j ≤ k) : Fn P w K mg base CX k f fd ps sp :=
  ⟨F.len, fun A outer s H args us vs Q E hq hr => F.run A outer s H args us vs Q E hq (hr.mono h)⟩
/-- what is told of all surroundings is told of quiet ones -/
theorem Fn.ofOk {k : Nat} {f : Addr} {fd : FuncData} {ps : List Str} {sp : Sp} (F : FnOk P w K mg base CX k f fd ps sp) : Fn P w K mg base CX k f fd ps sp :=
  ⟨F.len, fun A outer s H args us vs Q E _ hr => F.run A outer s H args us vs Q E hr⟩

theorem fnOf {k : Nat} {f : Addr} {name qual : Str} {params : Arguments} {body : List Stmt} {scope : Scope} {kV doc pm cdv ct oc : Value} {an od : Option Addr} {osl : Array (Option Value)} {N ps : List Str} {sp : Sp}
    (lk : K.lookup f = some ⟨oc, od, .func (PySem.W.fnOf name qual params body scope .none kV doc pm an cdv ct), osl⟩) (hcd : PySem.W.codeIn K cdv qual = true)
    (S : FnScope N ps scope) (len : ∀ vs H Q E, sp vs H Q E → vs.length = ps.length)
    (body_ok : ∀ (A : Around) (outer : List Env) (s : Shared) (H : Hp) (vs : List V) (Q : VK) (E : XK), Quiet A → Room k (A.deeper (envOfC qual scope s.heap.objs.size f cdv)) → sp vs H Q E →
      ∃ t, PSs (cxOf CX P w K mg base N qual scope f cdv A outer s H E) body t ∧ t { nx := fun _ H' => Q .non H', rt := Q } (start N vs) H) :
    Fn P w K mg base CX (k + 1) f (PySem.W.fnOf name qual params body scope .none kV doc pm an cdv ct) ps sp := by
  constructor
  · exact len
  intro A outer s H args us vs Q E hq hr e0 hb r hsp
  have hl : vs.length = ps.length := len _ _ _ _ hsp
  have inS : K.In s.heap := e0.mod.kin.keeps (fun b o e => (e0.bs b o e).1)
  have noL : s.heap.NoLimit := e0.mod.nolimit.keeps (fun b o e => (e0.bs b o e).1)
  have kinds : ∀ y ∈ ps.zip us, scope.names.lookup y.1 = some .local ∨ (scope.names.lookup y.1 = some .cell ∧ ((cellsFrom (s.heap.objs.size + 1) scope.names []).lookup y.1).isSome = true) := by
    rintro ⟨n, v⟩ hy
    cases S.par n (List.of_mem_zip hy).1 with
    | inl q => exact Or.inl q
    | inr q => exact Or.inr ⟨q, PySem.W.cellsFrom_some _ _ _ (Or.inl q)⟩
  apply codeAny_call_function hr.depth (inS _ _ lk) rfl S.co S.gen rfl (PySem.W.codeRec_of inS hcd)
  refine hb _ _ _ _ (wpAny_newFunctionEnv_cells S.kind kinds ?_)
  intro env he s1 x
  cases he
  constructor
  · exact noL.keeps x.toInCall.keep
  apply codeAny_func
  obtain ⟨t, ht, q0⟩ := body_ok A outer s H vs Q E hq (hr.deeper _) hsp
  have I := inv_start (CX := CX) (P := P) (w := w) (K := K) (mg := mg) (base := base) (E := E) S hr.hd e0 hl r x
  apply wpAny_mono (ht.run [] s1 (start N vs) H _ I q0)
  · intro fl s' hs
    cases fl with
    | ret u => obtain ⟨v, σ', H', J, rv, q⟩ := hs; exact ⟨v, H', J.os, J.bare, J.base, J.hok, rv, q⟩
    | next => obtain ⟨σ', H', J, q⟩ := hs; exact ⟨V.non, H', J.os, J.bare, J.base, J.hok, rfl, q⟩
    | brk => exact hs.elim fun _ z => z.elim fun _ z => z.2.elim
    | cont => exact hs.elim fun _ z => z.elim fun _ z => z.2.elim
  · intro e s' hs
    exact hs

theorem ok {x qual : Str} {st : Stmt} {f : Addr} {fd : FuncData} {N ps : List Str} {k : Nat} {sp : Sp} (F : Fun K x qual st f fd) (S : FnScope N ps (defScope st)) (len : ∀ vs H Q E, sp vs H Q E → vs.length = ps.length)
    (body_ok : ∀ (cdv : Value) (A : Around) (outer : List Env) (s : Shared) (H : Hp) (vs : List V) (Q : VK) (E : XK), Quiet A → Room k (A.deeper (envOfC qual (defScope st) s.heap.objs.size f cdv)) → sp vs H Q E →
      ∃ t, PSs (cxOf CX0 P w K mg base N qual (defScope st) f cdv A outer s H E).nox (defBody st) t ∧ t { nx := fun _ H' => Q .non H', rt := Q } (start N vs) H) :
    Fn P w K mg base CX0 (k + 1) f fd ps sp := by
  obtain ⟨_, _, _, _, _, _, cdv, _, _, rfl, lk, hcd⟩ := F.ex
  apply fnOf lk hcd S len
  intro A outer s H vs Q E hq hr hsp
  obtain ⟨t, h, q⟩ := body_ok cdv A outer s H vs Q E hq hr hsp
  exact ⟨t, h.nox, q⟩
end

section
variable {X : Cx} {CX : CXT} {k : Nat} {f C : Addr} {fd : FuncData} {ps : List Str} {sp : Sp} {dvs : List V} {ds : List Value} {E : XK} {x m : Str} {p pos apos : Pos} {e o : Expr} {es : List Expr} {ta : TE} {t : TA}
theorem runFn {pins : List (Addr × Obj)} {σ : L2.St} {H : Hp} {s : Shared} {Q : VK} {us : List Value} {vs : List V} (F : Fn X.prog X.w X.K X.mg X.base CX k f fd ps sp) (hq : Quiet X.A) (hr : Room k X.A) (hb : Binds X.K fd ps ds) (hd : Vals dvs ds)
    (hx : Passes CX X E) (I : Inv X pins σ H s) (r : Vals vs us) (h : sp (vs ++ dvs) H Q E) : wpAny (model X.prog X.w) X.A (call (.ref f) us) (EP X pins σ Q) X.xe s := by
  have r2 : Vals (vs ++ dvs) (us ++ ds) := r.append hd
  have hl : (us ++ ds).length = ps.length := r2.length.symm.trans (F.len _ _ _ _ h)
  apply wpAny_call
  apply codeAny_mono (F.run X.A X.stack s H ⟨us, []⟩ (us ++ ds) (vs ++ dvs) Q E hq hr I.env0 (hb s us I.kIn hl) r2 h)
  intro res s' done
  match res, done with
  | .error e, z => exact hx pins σ H s e s' I z
  | .ok (.ret u), z => exact I.after z
  | .ok .next, z => exact z.elim
  | .ok .brk, z => exact z.elim
  | .ok .cont, z => exact z.elim
/-- f(e, ..) -/
theorem pe_fn (F : Fn X.prog X.w X.K X.mg X.base CX k f fd ps sp) (hq : Quiet X.A) (hr : Room k X.A) (hg : Gl X x) (hm : X.mg x = some (.ref f)) (hk : PySem.W.keepIn X.K (.ref f) = true) (hb : Binds X.K fd ps ds) (hd : Vals dvs ds) (hx : Passes CX X E)
    (ha : PA X (e :: es) t) (hdb : (x == ("__debug__" : Str)) = false := by decide) (he : starEach (e :: es) X.env = (false, eval e X.env) :: starEach es X.env := by rfl) (hpl : (backTo pos (starEach es X.env)).any (·.1) = false := by rfl) :
    PE X (.Call (.Name x p) (e :: es) [] pos) (tCall sp dvs E t) := by
  constructor
  intro pins s σ H Q I h
  apply wpAny_Call_Name_kw
  apply ld_glob I hg hm _ hdb
  apply PySem.W.callWith_K (h₀ := X.base) I.ok.mod.kin hk _ he hpl
  apply thn (ha.run pos pins s σ H _ I h)
  rintro us s1 ⟨vs, H1, I1, r, q⟩
  exact ⟨I1.kIn, runFn F hq hr hb hd hx I1 r q⟩
/-- f() -/
theorem pe_fn0 (F : Fn X.prog X.w X.K X.mg X.base CX k f fd ps sp) (hq : Quiet X.A) (hr : Room k X.A) (hg : Gl X x) (hm : X.mg x = some (.ref f)) (hk : PySem.W.keepIn X.K (.ref f) = true) (hb : Binds X.K fd ps ds) (hd : Vals dvs ds) (hx : Passes CX X E)
    (hdb : (x == ("__debug__" : Str)) = false := by decide) : PE X (.Call (.Name x p) [] [] pos) (tCall sp dvs E tNil) := by
  constructor
  intro pins s σ H Q I h
  apply wpAny_Call_Name_kw
  apply ld_glob I hg hm _ hdb
  exact PySem.W.callWith_K0 I.kIn hk (runFn (us := []) F hq hr hb hd hx I .nil h)
end
end G

namespace G
open PySem PySem.Spec PyProof.Rows L2

/-! ### what a value of the abstract heap reads as, dicts with plain keys among it -/
def keyD : Key → PyData
  | .inl i => .int i
  | .inr x => .str x
mutual
inductive Da (H : Hp) : V → PyData → Prop
  | non : Da H .non .none
  | bl (b : Bool) : Da H (.bl b) (.bool b)
  | int (i : Int) : Da H (.int i) (.int i)
  | str (x : Str) : Da H (.str x) (.str x)
  | lst {a : Addr} {xs : List V} {ds : List PyData} : H a = some (.lst xs) → a ≠ sysModules → DaAll H xs ds → Da H (.ref a) (.list ds)
  | tup {a : Addr} {xs : List V} {ds : List PyData} : H a = some (.tup xs) → DaAll H xs ds → Da H (.ref a) (.tuple ds)
  | dct {a : Addr} {kvs : List (Key × V)} {ds : List PyData} : H a = some (.dK kvs) → DaAll H (kvs.map (·.2)) ds → Da H (.ref a) (.dict ((kvs.map fun p => keyD p.1).zip ds))
inductive DaAll (H : Hp) : List V → List PyData → Prop
  | nil : DaAll H [] []
  | cons {v : V} {vs : List V} {d : PyData} {ds : List PyData} : Da H v d → DaAll H vs ds → DaAll H (v :: vs) (d :: ds)
end
theorem DaAll.length {H : Hp} : ∀ {vs : List V} {ds : List PyData}, DaAll H vs ds → vs.length = ds.length
  | _, _, .nil => rfl
  | _, _, .cons _ t => congrArg (· + 1) (DaAll.length t)
mutual
theorem Da.same {H H' : Hp} (S : Same H H') : ∀ {v : V} {d : PyData}, Da H v d → Da H' v d
  | _, _, .non => .non
  | _, _, .bl b => .bl b
  | _, _, .int i => .int i
  | _, _, .str x => .str x
  | _, _, .lst e n t => .lst (S _ _ e) n (DaAll.same S t)
  | _, _, .tup e t => .tup (S _ _ e) (DaAll.same S t)
  | _, _, .dct e t => .dct (S _ _ e) (DaAll.same S t)
theorem DaAll.same {H H' : Hp} (S : Same H H') : ∀ {vs : List V} {ds : List PyData}, DaAll H vs ds → DaAll H' vs ds
  | _, _, .nil => .nil
  | _, _, .cons h t => .cons (Da.same S h) (DaAll.same S t)
end
theorem reads_keys {P : Program} {w : World} (h : Heap) : ∀ {es : List DictEntry} {kvs : List (Key × Value)}, Pairs (mixKind P w) es kvs → ReadsAll h (es.map (·.key)) (kvs.map fun p => keyD p.1) []
  | _, _, .nil => .nil
  | _, _, .cons (e := e) (kv := kv) hk _ t => by
    have h1 : Reads h e.key (keyD kv.1) [] := by
      rcases keyIs_shape (k := kv.1) (v := e.key) hk with ⟨i, t, e1, e2⟩ | ⟨x, t, e1, e2⟩
      · rw [e1, e2]; exact Reads.int i t
      · rw [e1, e2]; exact Reads.str x t
    exact ReadsAll.cons (as := []) (bs := []) h1 (reads_keys h t)
theorem vals_of_pairs {P : Program} {w : World} : ∀ {es : List DictEntry} {kvs : List (Key × Value)}, Pairs (mixKind P w) es kvs → es.map (·.val) = kvs.map (·.2)
  | _, _, .nil => rfl
  | _, _, .cons _ hv t => by rw [List.map_cons, List.map_cons, hv, vals_of_pairs t]
theorem KV.keys {kvs : List (Key × V)} {vs : List (Key × Value)} (r : KV kvs vs) : kvs.map (fun p => keyD p.1) = vs.map (fun p => keyD p.1) := by
  induction r with
  | nil => rfl
  | cons h _ ih => rw [List.map_cons, List.map_cons, h.1, ih]
theorem KV.valsV {kvs : List (Key × V)} {vs : List (Key × Value)} (r : KV kvs vs) : Vals (kvs.map (·.2)) (vs.map (·.2)) := by
  induction r with
  | nil => exact .nil
  | cons h _ ih => exact .cons h.2 ih

section
variable {X : Cx} {pins : List (Addr × Obj)} {σ : L2.St} {H : Hp} {s : Shared}
mutual
theorem Da.reads (I : Inv X pins σ H s) : ∀ {v : V} {d : PyData} {u : Value}, Da H v d → RelV v u → ∃ as, Reads s.heap u d as ∧ sysModules ∉ as
  | _, _, _, .non, r => by cases r; exact ⟨_, .none, by simp⟩
  | _, _, _, .bl b, r => by cases r; exact ⟨_, .bool b, by simp⟩
  | _, _, _, .int i, r => by obtain ⟨t, rfl⟩ := r; exact ⟨_, .int i t, by simp⟩
  | _, _, _, .str x, r => by obtain ⟨t, rfl⟩ := r; exact ⟨_, .str x t, by simp⟩
  | _, _, _, .lst e n t, r => by
    cases r
    obtain ⟨_, its, m, rv, ho⟩ := I.hok _ _ e
    obtain ⟨as, hr, hn⟩ := DaAll.reads I t rv
    exact ⟨_, .list ho rfl rfl hr, by simp only [List.mem_cons, not_or]; exact ⟨fun z => n z.symm, hn⟩⟩
  | _, _, _, .tup e t, r => by
    cases r
    obtain ⟨_, its, rv, o, ho, hc, m, hd⟩ := I.hok _ _ e
    obtain ⟨as, hr, hn⟩ := DaAll.reads I t rv
    exact ⟨_, .tuple ho hc hd hr, hn⟩
  | _, _, _, .dct (a := a) (kvs := kvs) (ds := ds) e t, r => by
    cases r
    obtain ⟨_, hs, vs, rel, o, es, ep, ho, hx, hd, hk, hp, _⟩ := I.hok _ _ e
    obtain ⟨bs, hr, hn⟩ := DaAll.reads I t (KV.valsV rel)
    have e1 : (((kvs.map fun p => keyD p.1).zip ds).map (·.1)) = vs.map fun p => keyD p.1 := by
      rw [List.map_fst_zip (by rw [List.length_map]; have := t.length; rw [List.length_map] at this; omega)]
      exact KV.keys rel
    have e2 : (((kvs.map fun p => keyD p.1).zip ds).map (·.2)) = ds :=
      List.map_snd_zip (by rw [List.length_map]; have := t.length; rw [List.length_map] at this; omega)
    refine ⟨_, .dict (as := []) (bs := bs) ho hx.1 hd ?_ ?_, ?_⟩
    · rw [e1]; exact reads_keys s.heap hp
    · rw [e2, vals_of_pairs hp]; exact hr
    · have : sysModules ≠ a := fun z => by rw [← z] at hs; exact absurd hs (by decide)
      simp only [List.append_nil, List.singleton_append, List.mem_cons, not_or]
      exact ⟨this, hn⟩
theorem DaAll.reads (I : Inv X pins σ H s) : ∀ {vs : List V} {ds : List PyData} {us : List Value}, DaAll H vs ds → Vals vs us → ∃ as, ReadsAll s.heap us ds as ∧ sysModules ∉ as
  | _, _, _, .nil, r => by cases r; exact ⟨_, .nil, by simp⟩
  | _, _, _, .cons h t, r => by
    cases r with
    | cons r1 r2 =>
      obtain ⟨as, q1, n1⟩ := Da.reads I h r1
      obtain ⟨bs, q2, n2⟩ := DaAll.reads I t r2
      exact ⟨_, .cons q1 q2, by rw [List.mem_append, not_or]; exact ⟨n1, n2⟩⟩
end
end

/-! ### data that is short enough to be shown -/
structure Gd (n k : Nat) (d : PyData) : Prop where
  short : d.leavesShort 13 = true
  show_ : d.showable = true
  depth : d.depth ≤ k
  weight : d.weight ≤ n
theorem Gd.mono {m n j k : Nat} {d : PyData} (g : Gd m j d) (h : m ≤ n) (h2 : j ≤ k) : Gd n k d := ⟨g.short, g.show_, Nat.le_trans g.depth h2, Nat.le_trans g.weight h⟩
theorem Gd.fits {n k : Nat} {d : PyData} (g : Gd n k d) (h : n ≤ 2 ^ 20) : d.shown.length ≤ sizeLine := PyData.shown_fits (by decide) (by decide) g.short (Nat.le_trans g.weight h)
/-- by a look: for written data -/
def gdB (n k : Nat) (d : PyData) : Bool := d.leavesShort 13 && (d.showable && (decide (d.depth ≤ k) && decide (d.weight ≤ n)))
theorem gdB_ok {n k : Nat} {d : PyData} (h : gdB n k d = true) : Gd n k d := by
  obtain ⟨h1, h⟩ := Bool.and_eq_true_iff.mp h
  obtain ⟨h2, h⟩ := Bool.and_eq_true_iff.mp h
  obtain ⟨h3, h4⟩ := Bool.and_eq_true_iff.mp h
  exact ⟨h1, h2, of_decide_eq_true h3, of_decide_eq_true h4⟩
theorem gd_all {n k : Nat} : ∀ {ds : List PyData}, (∀ d ∈ ds, Gd n k d) → PyData.leavesShortAll 13 ds = true ∧ PyData.showableAll ds = true ∧ PyData.depthAll ds ≤ k ∧ PyData.weightAll ds ≤ ds.length * (n + 1)
  | [], _ => ⟨by simp [PyData.leavesShortAll], by simp [PyData.showableAll], by simp [PyData.depthAll], by simp [PyData.weightAll]⟩
  | d :: ds, h => by
    obtain ⟨a, b, c, e⟩ := gd_all (fun x hx => h x (List.mem_cons_of_mem _ hx))
    have g := h d (List.mem_cons_self ..)
    refine ⟨by simp [PyData.leavesShortAll, g.short, a], by simp [PyData.showableAll, g.show_, b], ?_, ?_⟩
    · simp only [PyData.depthAll]; have := g.depth; omega
    · simp only [PyData.weightAll, List.length_cons, Nat.succ_mul]; have := g.weight; omega
theorem gd_tup {n k m N : Nat} {ds : List PyData} (h : ∀ d ∈ ds, Gd n k d) (hl : ds.length ≤ m) (hN : m * (n + 1) ≤ N) : Gd N (k + 1) (.tuple ds) := by
  obtain ⟨a, b, c, e⟩ := gd_all h
  have : ds.length * (n + 1) ≤ m * (n + 1) := Nat.mul_le_mul_right _ hl
  exact ⟨by simpa [PyData.leavesShort] using a, by simpa [PyData.showable] using b, by simp only [PyData.depth]; omega, by simp only [PyData.weight]; omega⟩
theorem gd_lst {n k m N : Nat} {ds : List PyData} (h : ∀ d ∈ ds, Gd n k d) (hl : ds.length ≤ m) (hN : m * (n + 1) ≤ N) : Gd N (k + 1) (.list ds) := by
  obtain ⟨a, b, c, e⟩ := gd_all h
  have : ds.length * (n + 1) ≤ m * (n + 1) := Nat.mul_le_mul_right _ hl
  exact ⟨by simpa [PyData.leavesShort] using a, by simpa [PyData.showable] using b, by simp only [PyData.depth]; omega, by simp only [PyData.weight]; omega⟩

section
variable {X : Cx}
/-- repr of data, where nothing shows itself -/
theorem call_reprD (hq : Quiet X.A) (hu : X.A.units + 64 < cLine) : CallR X (.builtin "repr") (fun xs H Q => ∃ v d n k, xs = [v] ∧ Da H v d ∧ Gd n k d ∧ (n ≤ 2 ^ 20 ∧ k ≤ 20) ∧ Q (.str d.shown) H) := by
  intro pins s σ H xs us Q I r h
  obtain ⟨v, d, n, k, rfl, hd, g, ⟨hn, hk⟩, q⟩ := h
  obtain ⟨u, rfl, ru⟩ := vals1 r
  have fits := g.fits hn
  have tail : ∀ (A : Addr), u = .ref A → wpAny (model X.prog X.w) X.A (call (.builtin "repr") [u]) (EP X pins σ Q) X.xe s := by
    rintro a rfl
    obtain ⟨as, hr, hns⟩ := Da.reads I hd ru
    refine repr_of_reads' (h₀ := s.heap) hr g.show_ (fun _ => hns) hq (by have := g.depth; omega) (fun _ _ z => z) (fun h' t tk hk => ?_) fits
    exact ⟨.str d.shown, H, I.kept hk, ⟨_, rfl⟩, q⟩
  cases hd with
  | non => cases ru; exact P.repr_of_none ⟨.str _, H, I.tok _, ⟨_, rfl⟩, q⟩
  | bl b =>
    cases ru
    refine P.repr_of_bool ?_
    exact ⟨.str _, H, I.tok _, ⟨_, rfl⟩, q⟩
  | int i =>
    obtain ⟨t, rfl⟩ := ru
    have hz : i.natAbs.log2 < 1920 := by have := g.show_; simpa [PyData.showable] using this
    exact P.repr_of_int hz ⟨.str _, H, I.tok _, ⟨_, rfl⟩, q⟩
  | str x =>
    obtain ⟨t, rfl⟩ := ru
    exact P.repr_of_str ⟨.str _, H, I.tok _, ⟨_, rfl⟩, q⟩ fits
  | lst e n t => cases ru; exact tail _ rfl
  | tup e t => cases ru; exact tail _ rfl
  | dct e t => cases ru; exact tail _ rfl
end
end G

namespace G
open PySem PySem.Spec PyProof.Rows L2

/-! ### errors of own classes as values: made, read, asked for their class -/
/-- what the written part says of an error's class -/
structure EC (K : PySem.W.Frag) (C : Addr) : Prop where
  ox : OexC K C
  hd : PySem.W.hasDictIn K C = true
  ga : PySem.W.findIn K (.ref C) "__getattribute__" = some (some (.builtin "BaseException.__getattribute__"))
  gg : PySem.W.findIn K (.ref C) "__getattr__" = some none
  nv : PySem.W.findIn K (.ref C) "value" = some none
  kl : PySem.W.findIn K (.ref C) "__class__" = some (some (.builtin "object.__class__"))
  ob : PySem.W.mroIn K C (.type "object") = some true
structure EK (K : PySem.W.Frag) : Prop where
  sp : PySem.W.specialIn K (.builtin "object.__class__") "__get__" = some (some (.builtin "getset_descriptor.__get__"))
  tk : PySem.W.takesIn K (.builtin "object.__class__") = some true
/-- an error of the class at C that keeps v -/
def ErrAt (H : Hp) (a C : Addr) (v : V) : Prop := ∃ d, H a = some (exo a C (some d)) ∧ H d = some (exd d [("value", v)])
theorem ErrAt.same {H H' : Hp} (S : Same H H') {a C : Addr} {v : V} (e : ErrAt H a C v) : ErrAt H' a C v := let ⟨d, h1, h2⟩ := e; ⟨d, S _ _ h1, S _ _ h2⟩
theorem EC.cls {K : PySem.W.Frag} {C : Addr} (T : EC K C) : (PySem.W.clsIn K C).isSome = true := by
  have h := T.hd
  unfold PySem.W.hasDictIn at h
  cases e : PySem.W.clsIn K C with
  | none => rw [e] at h; exact absurd h (by decide)
  | some c => rfl
section
variable {X : Cx}
theorem err_inst {pins : List (Addr × Obj)} {σ : L2.St} {H : Hp} {s : Shared} (I : Inv X pins σ H s) {a C : Addr} {v : V} (e : ErrAt H a C v) :
    ∃ (ox : Obj) (od : Obj) (mA : Str → Option Value) (dx : Addr), PySem.W.InstAt s.heap a ox C (some od) ∧ s.heap.Ns1 dx mA ∧ s.heap.get? dx = some od ∧ (∀ f, RelO (([("value", v)] : List (Str × V)).lookup f) (mA f)) := by
  obtain ⟨d, h1, h2⟩ := e
  obtain ⟨t1, ho⟩ := exo_at I.hok h1
  obtain ⟨mA, hn, hr⟩ := exd_at I.hok h2
  obtain ⟨o, es, ep, hd, hz⟩ := id hn
  exact ⟨_, o, mA, d, ⟨ho, rfl, rfl, hd⟩, hn, hd, hr⟩
/-- e.value -/
theorem pe_value {e : Expr} {te : TE} {pos : Pos} (he : PE X e te) (hb : attributeBase e "value" X.env (eval e X.env) = eval e X.env := by rfl) :
    PE X (.Attribute e "value" pos) (fun σ H Q => te σ H fun x H1 => ∃ a C v, x = .ref a ∧ EC X.K C ∧ ErrAt H1 a C v ∧ Q v H1) := by
  constructor
  intro pins s σ H Q I h
  refine attr_of hb (thn (he.run pins s σ H _ I h) ?_)
  rintro u s1 ⟨x, H1, I1, rx, a, C, v, rfl, T, ea, q⟩
  cases rx
  obtain ⟨ox, od, mA, dx, J, hn, hd, hr⟩ := err_inst I1 ea
  obtain ⟨od', hod, hl⟩ := lookIn_ns hn
  have eo : od' = od := Option.some.inj (hod.symm.trans hd)
  subst eo
  obtain ⟨u, hu, ru⟩ := RelO.some_of (v := v) (o := mA "value") (by have := hr "value"; simpa [List.lookup] using this)
  exact HandSPX.exc_get I1.kIn J T.ga T.gg T.ox.exC (PySem.W.findObj_own T.hd T.nv rfl (by rw [hl, hu])) (handed_of ru) ⟨v, H1, I1.tok _, ru, q⟩
/-- isinstance(e, C) of such an error -/
theorem call_isErr (S : EK X.K) : CallR X (.builtin "isinstance") (fun xs H Q => ∃ (a C : Addr) (v c : V) (u : Value) (b : Bool), xs = [.ref a, c] ∧ ClsV c u ∧ EC X.K C ∧ ErrAt H a C v ∧ PySem.W.kitOne X.K (.ref C) u = some b ∧ Q (.bl b) H) := by
  intro pins s σ H xs us Q I r h
  obtain ⟨a, C, v, c, u, b, rfl, k, T, ea, e, q⟩ := h
  obtain ⟨u1, u2, rfl, r1, r2⟩ := vals2 r
  have e2 := k.eq r2
  subst e2
  cases r1
  obtain ⟨ox, od, mA, dx, J, hn, hd, hr⟩ := err_inst I ea
  exact PySem.W.kia_one (PySem.W.kitx_exc (gt := none) T.cls T.ga T.gg T.ox.exC T.kl S.sp S.tk T.ob) I.kIn J e (fun z => nomatch z) fun tk => ⟨.bl b, H, I.tok tk, rfl, q⟩

/-- what __init__ of the errors promises: the first attribute, value -/
def spErrInit (K : PySem.W.Frag) : Sp := fun vs H Q _ => ∃ (a C : Addr) (v : V), vs = [.ref a, v] ∧ OexC K C ∧ PySem.W.findIn K (.ref C) "value" = some none ∧ H a = some (exo a C none) ∧
  ∀ dx, H dx = none → dx ≠ a → Q .non (upd (upd H dx (exd dx [("value", v)])) a (exo a C (some dx)))
/-- C(e): a new error of the class at C, with its dict -/
def tErr (C : Addr) (ta : TA) : TE := fun σ H Q => ta σ H fun vs H1 => ∃ v, vs = [v] ∧ ∀ a H2, H1 a = none → Same H1 H2 → ErrAt H2 a C v → Q (.ref a) H2
theorem pe_err {CX : CXT} {k : Nat} {fI C : Addr} {fd : FuncData} {x : Str} {e : Expr} {ta : TA} {p pos : Pos} (T : EC X.K C) (iC : PySem.W.findIn X.K (.ref C) "__init__" = some (some (.ref fI))) (tI : PySem.W.typeIn X.K (.ref fI) = some (.type "function"))
    (F : FnOk X.prog X.w X.K X.mg X.base CX k fI fd ["self", "value"] (spErrInit X.K)) (hr : Room (k + 1) X.A) (hb : Binds X.K fd ["self", "value"] []) (hx : Passes CX X (fun _ _ _ => False)) (hg : Gl X x) (hm : X.mg x = some (.ref C)) (ha : PA X [e] ta)
    (hdb : (x == ("__debug__" : Str)) = false := by decide) (he : starEach (e :: []) X.env = (false, eval e X.env) :: starEach [] X.env := by rfl) (hpl : (backTo pos (starEach [] X.env)).any (·.1) = false := by rfl) :
    PE X (.Call (.Name x p) [e] [] pos) (tErr C ta) := by
  constructor
  intro pins s σ H Q I h
  obtain ⟨nm, q, N, bs, bm, sn, sub, ab, col, dd, k0, k1, k2, k3, k5, hC, hbm⟩ := T.ox.cls
  apply wpAny_Call_Name_kw
  apply ld_glob I hg hm _ hdb
  apply PySem.W.callWith_K (h₀ := X.base) I.ok.mod.kin T.ox.kC _ he hpl
  apply thn (ha.run pos pins s σ H _ I h)
  rintro us s1 ⟨vs, H1, I1, r1, v, rfl, q1⟩
  refine ⟨I1.kIn, ?_⟩
  obtain ⟨u, rfl, ru⟩ := vals1 r1
  show wpAny _ _ (call (.ref C) [u]) _ _ _
  obtain ⟨hp, g, dr, tk, os⟩ := s1
  have up : hp.objs.size ≤ hp.objs.size + 1 := Nat.le_succ _
  have fresh : H1 (hp.objs.size + 1) = none := I1.hok.fresh up
  have keep : ∀ b o, hp.get? b = some o → ((hp.push (PySem.W.kdv_tup [u])).push (PySem.HandSPX.excO C hp.objs.size)).get? b = some o := fun b o z => Heap.get?_push_of_some _ (Heap.get?_push_of_some _ z)
  have here : ((hp.push (PySem.W.kdv_tup [u])).push (PySem.HandSPX.excO C hp.objs.size)).get? (hp.objs.size + 1) = some (PySem.HandSPX.excO C hp.objs.size) := by heap_get
  have J := I1.laid (t' := tk) (a := hp.objs.size + 1) (o := exo (hp.objs.size + 1) C none) keep up (exo_ok here)
  have sp : spErrInit X.K [.ref (hp.objs.size + 1), v] (upd H1 (hp.objs.size + 1) (exo (hp.objs.size + 1) C none)) (fun w H2 => w = .non ∧ Q (.ref (hp.objs.size + 1)) H2) (fun _ _ _ => False) := by
    refine ⟨hp.objs.size + 1, C, v, rfl, T.ox, T.nv, upd_same, fun dx hdx hne => ⟨rfl, q1 _ _ fresh ?_ ⟨dx, upd_same, ?_⟩⟩⟩
    · intro b o z
      rw [upd_ne hne] at hdx
      rw [upd_ne (ne_of_none z fresh), upd_ne (ne_of_none z hdx), upd_ne (ne_of_none z fresh)]
      exact z
    · rw [upd_ne hne]; exact upd_same
  apply wpAny_call
  apply PySem.HandSPX.call_own F_ve (fun Y => PySem.HandSPX.refsVE_contains Y bm hbm) (I1.kIn _ _ hC) (PySem.W.looks_findIn I1.kIn iC) (fun self => PySem.W.bind_fn I1.kIn self tI) (by rw [List.length_singleton, sizeLine_eq]; omega)
  have B := hb ⟨(hp.push (PySem.W.kdv_tup [u])).push (PySem.HandSPX.excO C hp.objs.size), g, dr, tk, os⟩ [.ref (hp.objs.size + 1), u] J.kIn rfl
  apply codeAny_mono (F.run _ X.stack _ _ ⟨[.ref (hp.objs.size + 1), u], []⟩ [.ref (hp.objs.size + 1), u] [.ref (hp.objs.size + 1), v] _ (fun _ _ _ => False) (hr.make C [u] []) (J.env0.make C [u] []) B (.cons rfl (.cons ru .nil)) sp)
  intro res s' done
  match res, done with
  | .error er, z => exact hx pins σ _ _ er s' J z
  | .ok .next, z => exact z.elim
  | .ok .brk, z => exact z.elim
  | .ok .cont, z => exact z.elim
  | .ok (.ret w), z =>
    obtain ⟨y, H2, J2, ry, ey, q2⟩ := J.after z
    subst ey
    exact ⟨ry, .ref (hp.objs.size + 1), H2, J2, rfl, q2⟩
where F_ve := PySem.F.excBase_ValueError
end
end G

namespace G
open PySem PySem.Spec PyProof.Rows L2

/-! ### the law's own call, entered while nothing shows itself -/
theorem lawCall {P : Program} {w : World} {K : PySem.W.Frag} {mg mb : Str → Option Value} {k : Nat} {fa a : Addr} {fd : FuncData} {x : Str} {sp : Sp} {s₁ : Shared} {vs : List Value} {ns : List Int}
    (KX : K.In s₁.heap) (glob : s₁.heap.Ns mainGlobals mg) (bltn : s₁.heap.Ns builtinsNs mb) (boot : ∀ x : Str, x ≠ "__name__" → mb x = bootBuiltins x) (lim : s₁.heap.NoLimit) (gens : s₁.gens = #[])
    (obj : s₁.heap.get? a = some { cls := .type "list", data := .seq vs.toArray }) (nums : IntsAre vs ns) (short : ns.length ≤ sizeLine) (room : Room k callerA)
    (F : ∀ base : Heap, K.In base → base.Ns mainGlobals mg → Fn P w K mg base CX0 k fa fd [x] sp) (bind : ∀ (s : Shared) (u : Value), BindsTo s fd ⟨[u], []⟩ [(x, u)])
    (told : ∀ H : Hp, Only H → SqL K H a (ns.map V.int) → sp [.ref a] H (fun v _ => v = .bl true) fun _ _ _ => False) :
    codeAny (model P w) callerA (.call (.ref fa) ⟨[.ref a], []⟩) (fun r s' => r = .ok (.ret (.bool true)) ∧ OldK s₁.heap s'.heap ∧ s'.os = s₁.os ∧ AllBare s'.gens) s₁ := by
  have rv := vals_ints nums
  have lenV := nums.length
  -- over an abstract heap that knows of the script at most
  suffices core : ∀ H : Hp, Only H → SqL K H a (ns.map V.int) → HOk P w H s₁.heap → (∀ b, H b ≠ none → b = a) → (H a ≠ none → K.lookup a = none) →
      codeAny (model P w) callerA (.call (.ref fa) ⟨[.ref a], []⟩) (fun r s' => r = .ok (.ret (.bool true)) ∧ OldK s₁.heap s'.heap ∧ s'.os = s₁.os ∧ AllBare s'.gens) s₁ by
    cases hk : K.lookup a with
    | some o =>
      have z := KX a o hk
      rw [obj] at z
      obtain rfl := Option.some.inj z
      apply core (fun _ => none) (fun _ => Or.inl rfl)
      · exact Or.inr ⟨_, vs.toArray, _, hk, rfl, rfl, rfl, by rw [List.size_toArray, lenV]; exact short, by simpa using rv⟩
      · intro b u z
        exact absurd (show (none : Option HO) = some u from z) (by simp)
      · exact fun b z => absurd rfl z
      · exact fun z => absurd rfl z
    | none =>
      apply core (fun b => if b = a then some (.frz { cls := .type "list", data := .seq vs.toArray } (.lst (ns.map V.int))) else none)
      · intro b
        by_cases hb : b = a
        · exact Or.inr ⟨_, _, if_pos hb⟩
        · exact Or.inl (if_neg hb)
      · exact Or.inl (Or.inr ⟨{ cls := .type "list", data := .seq vs.toArray }, if_pos rfl⟩)
      · intro b u z
        by_cases hb : b = a
        · obtain rfl := Option.some.inj ((if_pos hb).symm.trans z)
          rw [hb]
          exact ⟨obj, by rw [List.length_map]; exact short, vs, _, rv, obj⟩
        · exact absurd ((if_neg hb).symm.trans z) (by simp)
      · intro b z
        by_cases hb : b = a
        · exact hb
        · exact absurd (if_neg hb) z
      · exact fun _ => hk
  intro H hO hS hok hA hK
  have dictFree : ∀ {b : Addr} {o : Obj} {es : Array DictEntry} {ep : Nat}, s₁.heap.get? b = some o → o.data = .dict es ep → H b = none := by
    intro b o es ep e d
    cases q : H b with
    | none => rfl
    | some u =>
      obtain rfl := hA b (by rw [q]; simp)
      rw [obj] at e
      obtain rfl := Option.some.inj e
      exact absurd (show Data.seq vs.toArray _ = Data.dict es ep from d) (by simp)
  have nsB : ∀ {b : Addr} {m : Str → Option Value}, s₁.heap.Ns b m → (hidT s₁.heap H).Ns b m := by
    rintro b m ⟨o, es, ep, e, d, r⟩
    exact ⟨o, es, ep, hidT_get e (dictFree e d), d, r⟩
  have inB : K.In (hidT s₁.heap H) := by
    intro b o e
    apply hidT_get (KX b o e)
    cases q : H b with
    | none => rfl
    | some u =>
      obtain rfl := hA b (by rw [q]; simp)
      rw [hK (by rw [q]; simp)] at e
      exact absurd e (by simp)
  have M : Mod K mg (hidT s₁.heap H) := by
    obtain ⟨mc, l1, l2⟩ := lim
    exact ⟨inB, nsB glob, ⟨mb, nsB bltn, boot⟩, ⟨mc, nsB l1, l2⟩⟩
  have none_in : ∀ b : Addr, ¬ b ∈ frs ([] : List Env) := fun b z => absurd (show b ∈ ([] : List Addr) from z) (by simp)
  have e0 : Env0 P w K mg (hidT s₁.heap H) callerA [] s₁ H := ⟨rfl, M, fun b o e => of_hidT e, Nat.le_of_eq (hidT_size _ _), trivial, fun b hb => absurd hb (none_in b), hok, .of_eq gens⟩
  apply codeAny_mono ((F _ inB (nsB glob)).run callerA [] s₁ H ⟨[.ref a], []⟩ [.ref a] [.ref a] _ _ rfl room e0 (bind s₁ (.ref a)) (.cons rfl .nil) (told H hO hS))
  intro r s' h
  match r, h with
  | .error e, h => exact h.elim
  | .ok .next, h => exact h.elim
  | .ok .brk, h => exact h.elim
  | .ok .cont, h => exact h.elim
  | .ok (.ret u), h =>
    obtain ⟨v, H', os, bare, un, hok', r', q⟩ := h
    obtain rfl : v = .bl true := q
    obtain rfl : u = Value.bool true := r'
    refine ⟨rfl, OldK.of_keep fun b o e => ?_, os, bare⟩
    cases q : H b with
    | none => exact un.keep b o e q (none_in b) (by simp)
    | some u =>
      rcases hO b with z | ⟨ob, xs, z⟩
      · rw [q] at z; cases z
      · obtain ⟨e1, _⟩ := hok b _ z
        obtain ⟨e2, _⟩ := hok' b _ (un.frzs b ob _ z)
        rw [e] at e1
        obtain rfl := Option.some.inj e1
        exact e2
theorem walkOf {l : PySem.W.OpenLaw} {n k : Nat} {q : Program} {loose : List Str} {XP : (Str → Option Value) → Heap → Prop} {YP : World → Heap → Prop} {d : DefRec} {K : Params → PySem.W.Frag} {sp : PySem.W.Frag → Sp} {x : Str}
    (hn : l.most = some n) (hn2 : n ≤ sizeLine) (hdf : d.params.defaults = []) (hr : Room k callerA) (hY : ∀ (w : World) (h : Heap), YP w h → (K w.params).In h)
    (F : ∀ (w : World) (mg : Str → Option Value) (fa : Addr) (h : Heap), (K w.params).In h → h.Ns mainGlobals mg → mg d.name = some (.ref fa) →
      ∃ fd : FuncData, (∀ (s : Shared) (u : Value), BindsTo s fd ⟨[u], []⟩ [(x, u)]) ∧ ∀ base : Heap, (K w.params).In base → base.Ns mainGlobals mg → Fn l.prog w (K w.params) mg base CX0 k fa fd [x] (sp (K w.params)))
    (told : ∀ (K : PySem.W.Frag) (H : Hp) (a : Addr) (ns : List Int), ns.length ≤ n → Only H → SqL K H a (ns.map V.int) → sp K [.ref a] H (fun v _ => v = .bl true) fun _ _ _ => False) :
    PySem.W.WalkO q loose XP YP l.row.toRowW d [] (fun f vs => PySem.call f vs) := by
  apply Att.attach_call hn hdf
  intro w s₀ s₁ mg mb fa o pm cd doc a vs ns G Y ho hd hcd hmg hobj hints hlen hg
  have KX := hY w _ Y
  obtain ⟨fd, hb, hF⟩ := F w mg fa _ KX G.T.g hmg
  exact lawCall KX G.T.g G.T.b G.T.builtins G.T.nolimit hg hobj hints (Nat.le_trans hlen hn2) hr hF hb fun H hO hS => told (K w.params) H a ns hlen hO hS
end G

namespace G
open PySem PySem.Spec PyProof.Rows L2 HT

/-! ### further operators -/
/-- a ** b of greater ints -/
def CPowW (i j : Int) : Prop := 2 ≤ i ∧ 1 ≤ j ∧ ((Builtin.Int.intBits i : Nat) : Int) * j ≤ 100000
section
variable {X : Cx}
theorem op_powW : OpR X (binaryOp .Pow) (rI CPowW fun i j => .int (i ^ j.toNat)) := opI fun i j t u s Q E hc q => by
  obtain ⟨h1, h2, h3⟩ := hc
  have n0 : ¬ (j == 0) = true := by simp; omega
  have n1 : ¬ (i == 0 || i == 1) = true := by simp; omega
  have n2 : ¬ (i == -1) = true := by simp; omega
  have n3 : ¬ Builtin.Int.intTooBig (((Builtin.Int.intBits i : Nat) : Int) * j) = true := by
    have e : bitsLine = 134217728 := by decide
    unfold Builtin.Int.intTooBig
    rw [e]
    intro z
    have := of_decide_eq_true z
    omega
  exact PySem.AutoIntOps.pow_4 (by omega) n0 n1 n2 n3 q
end

section
variable {prog : Program} {w : World} {A : Around} {E : Value → Shared → Prop} {s : Shared}
theorem fm_map {α β : Type} {f : α → Option β} {g : α → β} : ∀ (l : List α), (∀ m ∈ l, f m = some (g m)) → l.filterMap f = l.map g
  | [], _ => rfl
  | a :: r, h => by rw [List.filterMap_cons, h a (List.mem_cons_self ..), List.map_cons, fm_map r fun m hm => h m (List.mem_cons_of_mem _ hm)]
theorem back_run (xs : List Value) : ((List.range xs.length).filterMap fun (m : Nat) => xs.toArray[((xs.length : Int) - 1 + (m : Int) * (-1)).toNat]?) = xs.reverse := by
  apply List.ext_getElem?
  intro i
  have e : ((List.range xs.length).filterMap fun (m : Nat) => xs.toArray[((xs.length : Int) - 1 + (m : Int) * (-1)).toNat]?) = (List.range xs.length).map fun (m : Nat) => (xs[xs.length - 1 - m]?).getD .none := by
    apply fm_map
    intro m hm
    have hm' : m < xs.length := List.mem_range.mp hm
    have e1 : ((xs.length : Int) - 1 + (m : Int) * (-1)).toNat = xs.length - 1 - m := by omega
    rw [e1, List.getElem?_toArray, List.getElem?_eq_getElem (by omega)]
    rfl
  rw [e, List.getElem?_map]
  by_cases hi : i < xs.length
  · rw [List.getElem?_range hi, Option.map_some, List.getElem?_eq_getElem (by omega), List.getElem?_reverse hi, List.getElem?_eq_getElem (by omega)]
    rfl
  · rw [List.getElem?_eq_none (by simpa using hi), List.getElem?_eq_none (by rw [List.length_reverse]; omega)]
    rfl
theorem getItem_tuple_back {t sl : Addr} {its : List Value} {u : Tok} {Q : Value → Shared → Prop} (ht : IsTup s.heap t its.toArray) (hs : s.heap.IsSliceOf sl .none .none (.int (-1) u)) (hsz : its.length ≤ sizeLine)
    (h : Q (.ref s.heap.objs.size) { s with heap := s.heap.push { cls := .type "tuple", data := .seq its.reverse.toArray } }) : wpAny (model prog w) A (getItem (.ref t) (.ref sl)) Q E s := by
  have big : sizeOk (.seq its.reverse.toArray) := by
    show its.reverse.toArray.size ≤ sizeLine
    rw [List.size_toArray, List.length_reverse]; exact hsz
  obtain ⟨os, hos, hcs, hds⟩ := id hs
  have hTs : s.TypeIs (.ref sl) "slice" := ⟨os, hos, hcs⟩
  unfold getItem
  try with_reducible refine wpAny_holding ?_
  first | refine wpAny_bind (wpAny_pure ?_) | skip
  apply wpAny_bind
  apply wpAny_sequenceKey ht.typeIs (by decide)
  apply wpAny_bind
  apply wpAny_callSpecial?_slot (name := Str.ofString "__getitem__") ht.typeIs PyProof.Rows.slot_tuple_getitem
  refine wpAny_call_entry PyProof.Rows.slot_tuple_getitem ht.typeIs entry_tuple_getitem ?_ (args_tuple_getitem _ _)
  show wpAny _ _ (Builtin.Tuple.tupleItemsOf (.ref t) >>= _) _ _ s
  apply wpAny_bind
  apply tupleItemsOf_ ht
  apply wpAny_bind
  apply wpAny_typeOf hTs
  rw [if_pos (by decide)]
  apply wpAny_bind
  unfold Builtin.Slice.sliceApplied Builtin.Slice.sliceFields
  apply wpAny_bind
  refine wpAny_bind (wpAny_field hos hds (x := .none) rfl (wpAny_bind (wpAny_field hos hds (x := .none) rfl (wpAny_bind (wpAny_field hos hds (x := .int (-1) u) rfl (wpAny_pure ?_))))))
  apply wpAny_bind
  apply slicePart_int
  show wpAny _ _ (if ((-1 : Int) == 0) = true then _ else _) _ _ s
  rw [if_neg (by decide)]
  refine wpAny_bind (slicePart_none (wpAny_bind (slicePart_none (wpAny_bind (wpAny_pure ?_)))))
  show wpAny _ _ (match Builtin.Slice.sliceAdjust none none (-1) (its.toArray.size : Int) with | (lo, hi) => pure (lo, (-1 : Int), Builtin.Slice.slicePlaces lo hi (-1))) _ _ s
  have e1 : Builtin.Slice.sliceAdjust none none (-1) (its.toArray.size : Int) = ((its.length : Int) - 1, -1) := by
    unfold Builtin.Slice.sliceAdjust
    have h1 : ((-1 : Int) < 0) := by omega
    simp [h1]
  have e2 : Builtin.Slice.slicePlaces ((its.length : Int) - 1) (-1) (-1) = its.length := by
    unfold Builtin.Slice.slicePlaces
    simp
    split <;> omega
  rw [e1]
  show wpAny _ _ (pure ((its.length : Int) - 1, (-1 : Int), Builtin.Slice.slicePlaces ((its.length : Int) - 1) (-1) (-1))) _ _ s
  rw [e2]
  refine wpAny_pure ?_
  have no : ¬ ((((its.length : Int) - 1 == 0) && ((-1 : Int) == 1) && (its.length == its.toArray.size)) = true) := by
    have : ((-1 : Int) == 1) = false := by decide
    rw [this, Bool.and_false, Bool.false_and]
    exact Bool.false_ne_true
  show wpAny _ _ (if ((((its.length : Int) - 1 == 0) && ((-1 : Int) == 1) && (its.length == its.toArray.size)) = true) then _ else _) _ _ s
  rw [if_neg no, back_run]
  first
    | exact wpAny_bind (m := Builtin.Tuple.tupleExact _) (wpAny_newObj_type (wpAny_pure ⟨_, rfl, wpAny_pure h⟩) big)
    | exact wpAny_bind (m := Builtin.Tuple.tupleExact _) (wpAny_newObj_type (wpAny_bind (wpAny_pure (wpAny_pure ⟨_, rfl, wpAny_pure h⟩))) big)
    | exact wpAny_bind (wpAny_bind (m := Builtin.Tuple.tupleExact _) (wpAny_newObj_type (wpAny_pure (wpAny_pure ⟨_, rfl, wpAny_pure h⟩)) big))
    | exact wpAny_bind (wpAny_bind (m := Builtin.Tuple.tupleExact _) (wpAny_newObj_type (wpAny_pure ⟨_, rfl, wpAny_pure h⟩) big))
end
section
variable {X : Cx}
/-- t[::-1], t a tuple -/
def tRevT (te : TE) : TE := fun σ H Q => te σ H fun x H1 => ∃ a xs, x = .ref a ∧ H1 a = some (.tup xs) ∧ ∀ p, H1 p = none → Q (.ref p) (upd H1 p (.tup xs.reverse))
theorem pe_revT {e : Expr} {te : TE} {k : Nat} {p1 p2 p3 pos : Pos} (he : PE X e te) : PE X (.Subscript e (.Slice none none (some (.UnaryOp .USub (.Constant (.int 1) k p1) p2)) p3) pos) (tRevT te) := by
  constructor
  intro pins s σ H Q I h
  apply Subscript_
  apply thn (he.run pins s σ H _ I h)
  rintro v s1 ⟨x, H1, I1, r1, a, xs, rfl, hx, q⟩
  cases r1
  have part : PO X (some (.UnaryOp .USub (.Constant (.int 1) k p1) p2)) (tPart (tUn (rU fun i => .int (-i)) (tC (.int 1)))) := po_some (pe_un un_neg pe_int)
  apply wpAny_Slice
  apply thn (po_none.run pins s1 σ H1 (fun o H2 => o = none ∧ H2 = H1) I1 ⟨rfl, rfl⟩)
  rintro vl s2 ⟨l, H2, I2, pl, rfl, rfl⟩
  apply thn (po_none.run pins s2 σ H2 (fun o H3 => o = none ∧ H3 = H2) I2 ⟨rfl, rfl⟩)
  rintro vu s3 ⟨u, H3, I3, pu, rfl, rfl⟩
  apply thn (part.run pins s3 σ H3 (fun o H4 => o = some (-1) ∧ H4 = H3) I3 ⟨1, rfl, -1, rfl, rfl, rfl⟩)
  rintro vs s4 ⟨o, H4, I4, ps, rfl, rfl⟩
  cases pl
  cases pu
  cases ps with
  | int _ tk =>
  have I5 : Inv X pins σ H4 { s4 with heap := s4.heap.push { cls := .type "slice", data := .fields #[.none, .none, .int (-1) tk] } } := I4.kept (t' := s4.toks) fun b ob z => Heap.get?_push_of_some _ z
  obtain ⟨hz, its, r, ht⟩ := I5.hok a _ hx
  have hl := r.length
  show wpAny (model X.prog X.w) X.A (subscriptTail e (.Slice none none (some (.UnaryOp .USub (.Constant (.int 1) k p1) p2)) p3) (.ref a) (.ref s4.heap.objs.size)) (EP X pins σ Q) X.xe { s4 with heap := s4.heap.push { cls := .type "slice", data := .fields #[.none, .none, .int (-1) tk] } }
  apply tail_any (ops := [.ref a, .ref s4.heap.objs.size]) (IsTup.typeIs ht) PyProof.Rows.slot_tuple_getitem.lookup _ (by with_unfolding_all rfl)
  apply getItem_tuple_back ht (Heap.IsSliceOf.new _ .none .none (.int (-1) tk)) (by omega)
  refine ⟨.ref _, _, I5.laid (t' := s4.toks) (o := .tup xs.reverse) (fun b ob z => Heap.get?_push_of_some _ z) (Nat.le_refl _) ?_, rfl, q _ (I5.hok.fresh (Nat.le_refl _))⟩
  exact ⟨by rw [List.length_reverse]; exact hz, _, r.reverse, ⟨_, Heap.get?_push_size _ rfl, rfl, _, rfl⟩⟩
/-- a list display, whose place is not the table of modules -/
def tLstS (t : TA) : TE := fun σ H Q => t σ H fun xs H1 => xs.length ≤ sizeLine ∧ ∀ p, H1 p = none → p ≠ sysModules → Q (.ref p) (upd H1 p (.lst xs))
theorem pe_lstS {es : List Expr} {t : TA} {pos : Pos} (h : PA X es t) : PE X (.List es pos) (tLstS t) := by
  constructor
  intro pins s σ H Q I hq
  apply wpAny_List_spliced
  apply thn (h.run pos pins s σ H _ I hq)
  rintro us s1 ⟨xs, H1, I1, r, z, q⟩
  refine ⟨by rw [← r.length]; exact z, ?_⟩
  refine ⟨.ref s1.heap.objs.size, upd H1 s1.heap.objs.size (.lst xs), I1.laid (t' := s1.toks) (fun b u e => Heap.get?_push_of_some _ e) (Nat.le_refl _) ?_, rfl, q _ (I1.hok.fresh (Nat.le_refl _)) (Nat.ne_of_gt I1.big)⟩
  exact ⟨z, us, 0, r, Heap.get?_push_size _ rfl⟩
end
end G

namespace G
open PySem PySem.Spec PyProof.Rows L2

/-! ### data apart from some addresses -/
open Classical in
noncomputable def mask (N : Addr → Prop) (H : Hp) : Hp := fun b => if N b then none else H b
theorem mask_out {N : Addr → Prop} {H : Hp} {b : Addr} (h : ¬ N b) : mask N H b = H b := by unfold mask; rw [if_neg h]
theorem mask_in {N : Addr → Prop} {H : Hp} {b : Addr} (h : N b) : mask N H b = none := by unfold mask; rw [if_pos h]
theorem mask_some {N : Addr → Prop} {H : Hp} {b : Addr} {o : HO} (h : mask N H b = some o) : ¬ N b ∧ H b = some o := by
  by_cases e : N b
  · rw [mask_in e] at h; cases h
  · rw [mask_out e] at h; exact ⟨e, h⟩
theorem mask_le (N : Addr → Prop) (H : Hp) : Same (mask N H) H := fun b o h => (mask_some h).2
theorem mask_mono {N : Addr → Prop} {H H' : Hp} (S : Same H H') : Same (mask N H) (mask N H') := fun b o h => by
  rw [mask_out (mask_some h).1]; exact S b o (mask_some h).2
theorem mask_less {N M : Addr → Prop} {H : Hp} (h : ∀ b, M b → N b) : Same (mask N H) (mask M H) := fun b o e => by
  rw [mask_out fun z => (mask_some e).1 (h b z)]; exact (mask_some e).2
theorem same_new {H : Hp} {q : Addr} {o : HO} (h : H q = none) : Same H (upd H q o) := fun b u e => by rw [upd_ne (ne_of_none e h)]; exact e

def Is (N : Addr → Prop) (H : Hp) (G : PyData → Prop) (v : V) : Prop := ∃ d, Da (mask N H) v d ∧ G d
theorem Is.same {N : Addr → Prop} {H H' : Hp} {G : PyData → Prop} {v : V} (S : Same H H') (h : Is N H G v) : Is N H' G v := let ⟨d, a, g⟩ := h; ⟨d, a.same (mask_mono S), g⟩
theorem Is.less {N M : Addr → Prop} {H : Hp} {G : PyData → Prop} {v : V} (h : ∀ b, M b → N b) (x : Is N H G v) : Is M H G v := let ⟨d, a, g⟩ := x; ⟨d, a.same (mask_less h), g⟩
theorem Is.imp {N : Addr → Prop} {H : Hp} {G G' : PyData → Prop} {v : V} (h : ∀ d, G d → G' d) (x : Is N H G v) : Is N H G' v := let ⟨d, a, g⟩ := x; ⟨d, a, h d g⟩
theorem is_int {N : Addr → Prop} {H : Hp} {G : PyData → Prop} {i : Int} (g : G (.int i)) : Is N H G (.int i) := ⟨_, .int i, g⟩
theorem is_str {N : Addr → Prop} {H : Hp} {G : PyData → Prop} {x : Str} (g : G (.str x)) : Is N H G (.str x) := ⟨_, .str x, g⟩
theorem is_bl {N : Addr → Prop} {H : Hp} {G : PyData → Prop} {b : Bool} (g : G (.bool b)) : Is N H G (.bl b) := ⟨_, .bl b, g⟩
theorem is_non {N : Addr → Prop} {H : Hp} {G : PyData → Prop} (g : G .none) : Is N H G .non := ⟨_, .non, g⟩
theorem daAll_of {N : Addr → Prop} {H : Hp} {G : PyData → Prop} : ∀ {xs : List V}, (∀ x ∈ xs, Is N H G x) → ∃ ds, DaAll (mask N H) xs ds ∧ ds.length = xs.length ∧ ∀ d ∈ ds, G d
  | [], _ => ⟨[], .nil, rfl, fun _ h => nomatch h⟩
  | x :: xs, h => by
    obtain ⟨d, a, g⟩ := h x (List.mem_cons_self ..)
    obtain ⟨ds, b, l, gs⟩ := daAll_of (xs := xs) fun y hy => h y (List.mem_cons_of_mem _ hy)
    refine ⟨d :: ds, .cons a b, by rw [List.length_cons, List.length_cons, l], fun y hy => ?_⟩
    rcases List.mem_cons.mp hy with e | hy
    · rw [e]; exact g
    · exact gs y hy
theorem is_of_daAll {N : Addr → Prop} {H : Hp} {G : PyData → Prop} : ∀ {xs : List V} {ds : List PyData}, DaAll (mask N H) xs ds → (∀ d ∈ ds, G d) → ∀ x ∈ xs, Is N H G x
  | _, _, .nil, _, _, h => nomatch h
  | _, _, .cons (d := d) a b, g, x, h => by
    rcases List.mem_cons.mp h with e | h
    · rw [e]; exact ⟨d, a, g d (List.mem_cons_self ..)⟩
    · exact is_of_daAll b (fun y hy => g y (List.mem_cons_of_mem _ hy)) x h
theorem is_tup {N : Addr → Prop} {H : Hp} {G G' : PyData → Prop} {a : Addr} {xs : List V} (hN : ¬ N a) (ha : H a = some (.tup xs)) (hx : ∀ x ∈ xs, Is N H G' x) (g : ∀ ds : List PyData, ds.length = xs.length → (∀ d ∈ ds, G' d) → G (.tuple ds)) : Is N H G (.ref a) := by
  obtain ⟨ds, b, l, gs⟩ := daAll_of hx
  exact ⟨_, .tup (by rw [mask_out hN]; exact ha) b, g ds l gs⟩
theorem is_lst {N : Addr → Prop} {H : Hp} {G G' : PyData → Prop} {a : Addr} {xs : List V} (hN : ¬ N a) (ha : H a = some (.lst xs)) (hs : a ≠ sysModules) (hx : ∀ x ∈ xs, Is N H G' x) (g : ∀ ds : List PyData, ds.length = xs.length → (∀ d ∈ ds, G' d) → G (.list ds)) : Is N H G (.ref a) := by
  obtain ⟨ds, b, l, gs⟩ := daAll_of hx
  exact ⟨_, .lst (by rw [mask_out hN]; exact ha) hs b, g ds l gs⟩

/-! ### what evaluates to good data, leaving all that is tracked as it is -/
def EvG (N : Addr → Prop) (te : TE) (σ : L2.St) (H : Hp) (G : PyData → Prop) : Prop := ∀ H1, Same H H1 → ∀ Q : VK, (∀ v H2, Same H1 H2 → Is N H2 G v → Q v H2) → te σ H1 Q
def EvGA (N : Addr → Prop) (ta : TA) (σ : L2.St) (H : Hp) (G : PyData → Prop) (m : Nat) : Prop :=
  ∀ H1, Same H H1 → ∀ Q : List V → Hp → Prop, (∀ vs H2, Same H1 H2 → vs.length = m → (∀ x ∈ vs, Is N H2 G x) → Q vs H2) → ta σ H1 Q
section
variable {N : Addr → Prop} {σ : L2.St} {H : Hp} {G G' : PyData → Prop} {te : TE} {ta : TA} {m : Nat}
/-- only what is tracked is set apart -/
def Tr (N : Addr → Prop) (H : Hp) : Prop := ∀ b, N b → H b ≠ none
theorem Tr.same {H' : Hp} (t : Tr N H) (S : Same H H') : Tr N H' := fun b h => by
  cases e : H b with
  | none => exact absurd e (t b h)
  | some o => rw [S b o e]; simp
theorem Tr.new {q : Addr} (t : Tr N H) (h : H q = none) : ¬ N q := fun z => t q z h
theorem EvG.mono {H' : Hp} (S : Same H H') (h : EvG N te σ H G) : EvG N te σ H' G := fun H1 S1 Q q => h H1 (S.trans S1) Q q
theorem EvGA.mono {H' : Hp} (S : Same H H') (h : EvGA N ta σ H G m) : EvGA N ta σ H' G m := fun H1 S1 Q q => h H1 (S.trans S1) Q q
theorem evg_is {v : V} (h : ∀ H', Is N H' G v) : EvG N (tC v) σ H G := fun H1 _ Q q => q v H1 (Same.refl _) (h H1)
theorem evg_int {i : Int} (g : G (.int i)) : EvG N (tC (.int i)) σ H G := evg_is fun _ => is_int g
theorem evg_str {x : Str} (g : G (.str x)) : EvG N (tC (.str x)) σ H G := evg_is fun _ => is_str g
theorem evg_bl {b : Bool} (g : G (.bool b)) : EvG N (tC (.bl b)) σ H G := evg_is fun _ => is_bl g
theorem evg_non (g : G .none) : EvG N (tC .non) σ H G := evg_is fun _ => is_non g
theorem evg_neg {i : Int} (g : G (.int (-i))) : EvG N (tUn (rU fun i => .int (-i)) (tC (.int i))) σ H G := fun H1 _ Q q => ⟨i, rfl, q _ H1 (Same.refl _) (is_int g)⟩
theorem evg_pow {i j : Int} (c : CPowW i j) (g : G (.int (i ^ j.toNat))) : EvG N (tOp (rI CPowW fun i j => .int (i ^ j.toNat)) (tC (.int i)) (tC (.int j))) σ H G :=
  fun H1 _ Q q => ⟨i, j, rfl, rfl, c, q _ H1 (Same.refl _) (is_int g)⟩
theorem evg_var {i : Nat} {v : V} (h : σ[i]? = some (some v)) (x : Is N H G v) : EvG N (tVar i) σ H G := fun H1 S Q q => ⟨v, h, q v H1 (Same.refl _) (x.same S)⟩
theorem eva_nil : EvGA N tNil σ H G 0 := fun H1 _ Q q => q [] H1 (Same.refl _) rfl fun _ h => nomatch h
theorem eva_cons {tr : TA} (h : EvG N te σ H G) (hr : EvGA N tr σ H G m) : EvGA N (tCons te tr) σ H G (m + 1) := fun H1 S Q q =>
  h H1 S _ fun v H2 S2 x => hr H2 (S.trans S2) _ fun vs H3 S3 l xs => q (v :: vs) H3 (S2.trans S3) (by rw [List.length_cons, l]) fun y hy => by
    rcases List.mem_cons.mp hy with e | hy
    · rw [e]; exact x.same S3
    · exact xs y hy
theorem evg_tup (t : Tr N H) (h : EvGA N ta σ H G' m) (hm : m ≤ 1000) (g : ∀ ds : List PyData, ds.length = m → (∀ d ∈ ds, G' d) → G (.tuple ds)) : EvG N (tTup ta) σ H G := fun H1 S Q q =>
  h H1 S _ fun vs H2 S2 l xs => ⟨by rw [l, sizeLine_eq]; omega, fun p hp => q (.ref p) _ (S2.trans (same_new hp))
    (is_tup (((t.same S).same S2).new hp) upd_same (fun x hx => (xs x hx).same (same_new hp)) fun ds e => g ds (e.trans l))⟩
theorem evg_lst (t : Tr N H) (h : EvGA N ta σ H G' m) (hm : m ≤ 1000) (g : ∀ ds : List PyData, ds.length = m → (∀ d ∈ ds, G' d) → G (.list ds)) : EvG N (tLstS ta) σ H G := fun H1 S Q q =>
  h H1 S _ fun vs H2 S2 l xs => ⟨by rw [l, sizeLine_eq]; omega, fun p hp hs => q (.ref p) _ (S2.trans (same_new hp))
    (is_lst (((t.same S).same S2).new hp) upd_same hs (fun x hx => (xs x hx).same (same_new hp)) fun ds e => g ds (e.trans l))⟩
theorem evg_dnew (t : Tr N H) (g : G (.dict [])) : EvG N tDNewK σ H G := fun H1 S Q q p hp => q (.ref p) _ (same_new hp)
  ⟨_, .dct (kvs := []) (ds := []) (by rw [mask_out ((t.same S).new hp)]; exact upd_same) .nil, g⟩
/-- {'k': e} -/
theorem evg_dict1 {x : Str} (t : Tr N H) (h : ∀ q H1, Same H H1 → EvG (fun b => N b ∨ b = q) te σ H1 G') (g : ∀ d, G' d → G (.dict [(.str x, d)])) : EvG N (tDisp [(tC (.str x), te)]) σ H G := fun H1 S Q q p hp => by
  refine h p _ (S.trans (same_new hp)) _ (Same.refl _) _ fun v H2 S2 ⟨d, a, gd⟩ => ?_
  have e2 : H2 p = some (.dK []) := S2 _ _ upd_same
  refine ⟨e2, [(Sum.inr x, v)], rfl, by show 1 ≤ 15; decide, ?_⟩
  have keep : Same H1 (upd H2 p (.dK (mergeK [] [(Sum.inr x, v)]))) := fun b o e => by
    rw [upd_ne (ne_of_none e hp)]
    exact S2 b o (by rw [upd_ne (ne_of_none e hp)]; exact e)
  refine q (.ref p) _ keep ⟨_, .dct (kvs := [(Sum.inr x, v)]) (ds := [d]) (by rw [mask_out ((t.same S).new hp)]; exact upd_same) (.cons (a.same ?_) .nil), g d gd⟩
  intro b o e
  obtain ⟨nb, eb⟩ := mask_some e
  have n1 : ¬ N b := fun z => nb (Or.inl z)
  have n2 : b ≠ p := fun z => nb (Or.inr z)
  rw [mask_out n1, upd_ne n2]
  exact eb
/-- a new list of good data, where it is -/
theorem eva_list (t : Tr N H) (h : EvGA N ta σ H G m) (hm : m ≤ 1000) {Q : VK} (q : ∀ l xs H2, Same H H2 → H l = none → H2 l = some (.lst xs) → l ≠ sysModules → xs.length = m → (∀ x ∈ xs, Is N H2 G x) → Q (.ref l) H2) : tLstS ta σ H Q :=
  h H (Same.refl _) _ fun vs H2 S2 l xs => ⟨by rw [l, sizeLine_eq]; omega, fun p hp hs => q p vs _ (S2.trans (same_new hp)) (Same.free S2 hp) upd_same hs l fun x hx => (xs x hx).same (same_new hp)⟩
end
end G

namespace G
open PySem PySem.Spec PyProof.Rows L2
section
variable {X : Cx}
/-- list(t), t a tuple: the new list is not the table of modules -/
def rListT : List V → Hp → VK → Prop := fun xs H Q => ∃ p ys, xs = [.ref p] ∧ H p = some (.tup ys) ∧ ∀ l, H l = none → l ≠ sysModules → Q (.ref l) (upd H l (.lst ys))
theorem call_listT : CallR X (.type "list") rListT := by
  intro pins s σ H xs us Q I r h
  obtain ⟨p, ys, rfl, hp, q⟩ := h
  obtain ⟨u, rfl, rx⟩ := vals1 r
  cases rx
  obtain ⟨its, r', ⟨o, ho, hc, n, hd⟩, hz⟩ := I.tuple (SqT.of hp)
  have hlen := r'.length
  refine call_list_seq p (.inr rfl) ho hc hd (fun h' c' kp e => ?_) (by simp only [List.size_toArray] <;> omega)
  refine ⟨.ref s.heap.objs.size, _, I.laid (t' := s.toks) kp (Nat.le_refl _) (o := .lst ys) ⟨hz, its, c', r', e⟩, rfl, q _ (I.hok.fresh (Nat.le_refl _)) (Nat.ne_of_gt I.big)⟩
end

section
variable {K : PySem.W.Frag} {N : Addr → Prop} {σ : L2.St} {H : Hp} {G G' : PyData → Prop} {te tf : TE} {tl th : TO} {m : Nat}
/-! ### tuples: parts, sums, the other way about -/
theorem cutV_mem {xs : List V} {lo hi : Option Int} {x : V} (h : x ∈ cutV xs lo hi) : x ∈ xs := List.mem_of_mem_drop (List.mem_of_mem_take h)
theorem slA_any {a : Addr} {xs : List V} {lo hi : Option Int} {Q : VK} (ha : H a = some (.tup xs)) (q : ∀ b ys H1, Same H H1 → H1 b = some (.tup ys) → (b = a ∨ H b = none) → (∀ y ∈ ys, y ∈ xs) → ys.length ≤ xs.length → Q (.ref b) H1) : rSlA K (.ref a) lo hi H Q :=
  ⟨a, xs, rfl, SqT.of ha, fun _ => q a xs H (Same.refl _) ha (.inl rfl) (fun _ h => h) (Nat.le_refl _), fun _ p hp => q p _ _ (same_new hp) upd_same (.inr hp) (fun _ h => cutV_mem h) (cutV_length _ _ _)⟩
theorem catA_any {a b : Addr} {xs ys : List V} {Q : VK} (ha : H a = some (.tup xs)) (hb : H b = some (.tup ys)) (hz : xs.length + ys.length ≤ 100000)
    (q : ∀ c H1, Same H H1 → H1 c = some (.tup (xs ++ ys)) → (c = a ∨ c = b ∨ H c = none) → Q (.ref c) H1) : rCatA K (.ref a) (.ref b) H Q := by
  refine ⟨a, b, xs, ys, rfl, rfl, SqT.of ha, SqT.of hb, by rw [sizeLine_eq]; omega, fun e => ?_, fun e1 e2 => ?_, fun e1 e2 p hp => ?_⟩
  · exact q b H (Same.refl _) (by rw [e]; exact hb) (.inr (.inl rfl))
  · exact q a H (Same.refl _) (by rw [e2, List.append_nil]; exact ha) (.inl rfl)
  · exact q p _ (same_new hp) upd_same (.inr (.inr hp))
/-- a tuple of good data, outside of N -/
def IsT (N : Addr → Prop) (H : Hp) (G : PyData → Prop) (m : Nat) (v : V) : Prop := ∃ a xs, v = .ref a ∧ ¬ N a ∧ H a = some (.tup xs) ∧ xs.length ≤ m ∧ ∀ x ∈ xs, Is N H G x
theorem IsT.same {H' : Hp} {v : V} (S : Same H H') (h : IsT N H G m v) : IsT N H' G m v := by
  obtain ⟨a, xs, rfl, n, e, l, x⟩ := h
  exact ⟨a, xs, rfl, n, S _ _ e, l, fun y hy => (x y hy).same S⟩
theorem IsT.is {v : V} (h : IsT N H G' m v) (g : ∀ ds : List PyData, ds.length ≤ m → (∀ d ∈ ds, G' d) → G (.tuple ds)) : Is N H G v := by
  obtain ⟨a, xs, rfl, n, e, l, x⟩ := h
  exact is_tup n e x fun ds e2 => g ds (by omega)
def EvT (N : Addr → Prop) (te : TE) (σ : L2.St) (H : Hp) (G : PyData → Prop) (m : Nat) : Prop := ∀ H1, Same H H1 → ∀ Q : VK, (∀ v H2, Same H1 H2 → IsT N H2 G m v → Q v H2) → te σ H1 Q
/-- an optional part of a slice that is an int -/
def EvO (to : TO) (σ : L2.St) : Prop := ∀ (H1 : Hp) (Q : Option Int → Hp → Prop), (∀ o, Q o H1) → to σ H1 Q
theorem evo_none : EvO tNoPart σ := fun H1 Q q => q _
theorem evo_int {i : Int} : EvO (tPart (tC (.int i))) σ := fun H1 Q q => ⟨i, rfl, q _⟩
theorem evo_neg {i : Int} : EvO (tPart (tUn (rU fun i => .int (-i)) (tC (.int i)))) σ := fun H1 Q q => ⟨i, rfl, _, rfl, q _⟩
theorem evo_var {i : Nat} {j : Int} (h : σ[i]? = some (some (.int j))) : EvO (tPart (tVar i)) σ := fun H1 Q q => ⟨_, h, _, rfl, q _⟩
theorem evo_add {i : Nat} {j k : Int} (h : σ[i]? = some (some (.int j))) : EvO (tPart (tOp (rI0 fun i j => .int (i + j)) (tVar i) (tC (.int k)))) σ := fun H1 Q q => ⟨_, h, _, _, rfl, rfl, _, rfl, q _⟩
theorem EvT.g (h : EvT N te σ H G' m) (g : ∀ ds : List PyData, ds.length ≤ m → (∀ d ∈ ds, G' d) → G (.tuple ds)) : EvG N te σ H G := fun H1 S Q q => h H1 S Q fun v H2 S2 x => q v H2 S2 (x.is g)
theorem evt_var {i : Nat} {v : V} (h : σ[i]? = some (some v)) (x : IsT N H G m v) : EvT N (tVar i) σ H G m := fun H1 S Q q => ⟨v, h, q v H1 (Same.refl _) (x.same S)⟩
theorem evt_tup {ta : TA} (t : Tr N H) (h : EvGA N ta σ H G m) (hm : m ≤ 1000) : EvT N (tTup ta) σ H G m := fun H1 S Q q =>
  h H1 S _ fun vs H2 S2 l xs => ⟨by rw [l, sizeLine_eq]; omega, fun p hp => q (.ref p) _ (S2.trans (same_new hp)) ⟨p, vs, rfl, ((t.same S).same S2).new hp, upd_same, Nat.le_of_eq l, fun x hx => (xs x hx).same (same_new hp)⟩⟩
theorem evt_sl (t : Tr N H) (h : EvT N te σ H G m) (hl : EvO tl σ) (hh : EvO th σ) : EvT N (tSl (rSlA K) te tl th) σ H G m := fun H1 S Q q =>
  h H1 S _ fun v H2 S2 ⟨a, xs, ev, n, e, l, x⟩ => by
    subst ev
    refine hl H2 _ fun lo => hh H2 _ fun hi => slA_any e fun b ys H3 S3 e3 w sub l3 => ?_
    refine q _ H3 (S2.trans S3) ⟨b, ys, rfl, ?_, e3, by omega, fun y hy => (x y (sub y hy)).same S3⟩
    rcases w with w | w
    · rw [w]; exact n
    · exact ((t.same S).same S2).new w
theorem evt_cat {k : Nat} (t : Tr N H) (h : EvT N te σ H G m) (h2 : EvT N tf σ H G k) (hz : m + k ≤ 1000) : EvT N (tOp (rCatA K) te tf) σ H G (m + k) := fun H1 S Q q =>
  h H1 S _ fun v H2 S2 ⟨a, xs, ev, n, e, l, x⟩ => by
    subst ev
    refine h2 H2 (S.trans S2) _ fun w H3 S3 ⟨b, ys, ew, n3, e3, l3, x3⟩ => ?_
    subst ew
    refine catA_any (S3 _ _ e) e3 (by omega) fun c H4 S4 e4 wh => q _ H4 ((S2.trans S3).trans S4) ⟨c, _, rfl, ?_, e4, by rw [List.length_append]; omega, fun y hy => ?_⟩
    · rcases wh with z | z | z
      · rw [z]; exact n
      · rw [z]; exact n3
      · exact (((t.same S).same S2).same S3).new z
    · rcases List.mem_append.mp hy with z | z
      · exact ((x y z).same S3).same S4
      · exact (x3 y z).same S4
theorem evt_rev (t : Tr N H) (h : EvT N te σ H G m) : EvT N (tRevT te) σ H G m := fun H1 S Q q =>
  h H1 S _ fun v H2 S2 ⟨a, xs, ev, n, e, l, x⟩ => ⟨a, xs, ev, e, fun p hp => q _ _ (S2.trans (same_new hp)) ⟨p, _, rfl, ((t.same S).same S2).new hp, upd_same, by rw [List.length_reverse]; exact l, fun y hy => (x y (List.mem_reverse.mp hy)).same (same_new hp)⟩⟩
/-- list(t) -/
theorem evg_listT (t : Tr N H) (h : EvT N te σ H G' m) (g : ∀ ds : List PyData, ds.length ≤ m → (∀ d ∈ ds, G' d) → G (.list ds)) : EvG N (tCB rListT (tCons te tNil)) σ H G := fun H1 S Q q =>
  h H1 S _ fun v H2 S2 ⟨a, xs, ev, n, e, l, x⟩ => ⟨a, xs, by rw [ev], e, fun p hp hs => q _ _ (S2.trans (same_new hp))
    (is_lst (((t.same S).same S2).new hp) upd_same hs (fun y hy => (x y hy).same (same_new hp)) fun ds e2 => g ds (by omega))⟩
/-- a value by itself: what a reading leads to, for sure, the heap as it is -/
theorem evg_to {v : V} (h : ∀ (H1 : Hp) (Q : VK), Q v H1 → te σ H1 Q) (x : ∀ H', Is N H' G v) : EvG N te σ H G := fun H1 _ Q q => h H1 Q (q v H1 (Same.refl _) (x H1))
end
/-! data without dicts, for comparisons -/
mutual
theorem Da.dp {K : PySem.W.Frag} {H : Hp} : ∀ {v : V} {d : PyData}, Da H v d → d.canLay0 = true → Dp K H v d
  | _, _, .non, _ => .non
  | _, _, .bl b, _ => .bl b
  | _, _, .int i, _ => .int i
  | _, _, .str x, _ => .str x
  | _, _, .lst e _ t, h => .lst (SqL.of e) (DaAll.dp t (by simpa [PyData.canLay0] using h))
  | _, _, .tup e t, h => .tup (SqT.of e) (DaAll.dp t (by simpa [PyData.canLay0] using h))
  | _, _, .dct e t, h => by simp [PyData.canLay0] at h
theorem DaAll.dp {K : PySem.W.Frag} {H : Hp} : ∀ {vs : List V} {ds : List PyData}, DaAll H vs ds → PyData.canLayAll0 ds = true → DpAll K H vs ds
  | _, _, .nil, _ => .nil
  | _, _, .cons h t, e => by
    simp only [PyData.canLayAll0, Bool.and_eq_true] at e
    exact .cons (Da.dp h e.1) (DaAll.dp t e.2)
end
end G
namespace G
open PySem PySem.Spec PyProof.Rows L2
theorem s_set {te : TE} {i : Nat} {u : TS} {D : Ends} {σ : L2.St} {H : Hp} (h : te σ H fun x H1 => u D (σ.set i (some x)) H1) : tSeq (tAsg te (gName i)) u D σ H := h
theorem s_ret {te : TE} {D : Ends} {σ : L2.St} {H : Hp} (h : te σ H D.rt) : tRet te D σ H := h
theorem s_seq {t u : TS} {D : Ends} {σ : L2.St} {H : Hp} (h : t { D with nx := u D } σ H) : tSeq t u D σ H := h
theorem s_if {c : TT} {t u : TS} {D : Ends} {σ : L2.St} {H : Hp} (h : c σ H fun b H1 => if b = true then t D σ H1 else u D σ H1) : tIfS c t u D σ H := h
end G
namespace G
open PySem PySem.Spec PyProof.Rows L2
theorem t_op {r : R2} {ta tb : TE} {σ : L2.St} {H : Hp} {Q : VK} (h : ta σ H fun x H1 => tb σ H1 fun y H2 => r x y H2 Q) : tOp r ta tb σ H Q := h
theorem t_cons {ta : TE} {tr : TA} {σ : L2.St} {H : Hp} {Q : List V → Hp → Prop} (h : ta σ H fun x H1 => tr σ H1 fun xs H2 => Q (x :: xs) H2) : tCons ta tr σ H Q := h
end G

namespace G
open PySem PySem.Spec PyProof.Rows L2
/-! ### lists that are put together, with a word about their items -/
def EvP (ta : TA) (σ : L2.St) (H : Hp) (P : Hp → List V → Prop) (m : Nat) : Prop := ∀ H1, Same H H1 → ∀ Q : List V → Hp → Prop, (∀ vs H2, Same H1 H2 → vs.length = m → P H2 vs → Q vs H2) → ta σ H1 Q
def Stays (P : Hp → List V → Prop) : Prop := ∀ H H' vs, Same H H' → P H vs → P H' vs
section
variable {σ : L2.St} {H : Hp} {P P0 P1 : Hp → List V → Prop} {te : TE} {ta : TA} {m : Nat} {Q : VK}
theorem lstP (h : EvP ta σ H P m) (hm : m ≤ 1000) (st : Stays P) (k : ∀ p vs H', Same H H' → H p = none → H' p = some (.lst vs) → vs.length = m → P H' vs → Q (.ref p) H') : tLstS ta σ H Q :=
  h H (Same.refl _) _ fun vs H2 S2 l p => ⟨by rw [l, sizeLine_eq]; omega, fun a ha hs => k a vs _ (S2.trans (same_new ha)) (Same.free S2 ha) upd_same l (st _ _ _ (same_new ha) p)⟩
theorem catP {i : Nat} {l : Addr} {xs : List V} {n : Nat} (hσ : σ[i]? = some (some (.ref l))) (hl : H l = some (.lst xs)) (p0 : P0 H xs) (st0 : Stays P0) (hn : xs.length = n) (h : EvP ta σ H P1 m) (st1 : Stays P1) (hm : n + m ≤ 1000)
    (both : ∀ H xs ys, P0 H xs → P1 H ys → P H (xs ++ ys)) (st : Stays P) (k : ∀ p vs H', Same H H' → H p = none → H' p = some (.lst vs) → vs.length = n + m → P H' vs → Q (.ref p) H') : tOp rCat (tVar i) (tLstS ta) σ H Q := by
  refine ⟨_, hσ, lstP h (by omega) st1 fun p ys H1 S1 np hp ly py => ?_⟩
  refine ⟨_, _, _, _, rfl, rfl, S1 _ _ hl, hp, by rw [hn, ly, sizeLine_eq]; omega, fun q nq => ?_⟩
  exact k q _ _ (S1.trans (same_new nq)) (Same.free S1 nq) upd_same (by rw [List.length_append, hn, ly]) (st _ _ _ (same_new nq) (both _ _ _ (st0 _ _ _ S1 p0) py))
/-- truth values -/
def Bls (bs : List Bool) : Hp → List V → Prop := fun _ vs => vs = bs.map V.bl
theorem bls_stays (bs : List Bool) : Stays (Bls bs) := fun _ _ _ _ h => h
theorem evb_nil : EvP tNil σ H (Bls []) 0 := fun H1 _ Q q => q [] H1 (Same.refl _) rfl rfl
theorem evb_is {K : PySem.W.Frag} {e C Ci : Addr} {v : V} {b : Bool} {bs : List Bool} {i : Nat} (hσ : σ[i]? = some (some (.ref e))) (T : EC K C) (he : ErrAt H e C v) (hk : PySem.W.kitOne K (.ref C) (.ref Ci) = some b) (hr : EvP ta σ H (Bls bs) m) :
    EvP (tCons (tCB (fun xs H Q => ∃ (a C : Addr) (v c : V) (u : Value) (b : Bool), xs = [.ref a, c] ∧ ClsV c u ∧ EC K C ∧ ErrAt H a C v ∧ PySem.W.kitOne K (.ref C) u = some b ∧ Q (.bl b) H) (tCons (tVar i) (tCons (tC (.ref Ci)) tNil))) ta) σ H (Bls (b :: bs)) (m + 1) :=
  fun H1 S Q q => ⟨_, hσ, e, C, v, _, _, b, rfl, .own Ci, T, he.same S, hk, hr H1 S _ fun vs H2 S2 l p => q _ H2 S2 (by rw [List.length_cons, l]) (by rw [p]; rfl)⟩
theorem bls_app {bs cs : List Bool} : ∀ (H : Hp) (xs ys : List V), Bls bs H xs → Bls cs H ys → Bls (bs ++ cs) H (xs ++ ys) := fun _ xs ys h1 h2 => by rw [h1, h2]; exact (List.map_append).symm
/-- errors that keep v, one of each class -/
def Ers (v : V) (Cs : List Addr) : Hp → List V → Prop := fun H vs => Paired (fun x C => ∃ e, x = .ref e ∧ ErrAt H e C v) vs Cs
theorem ers_stays (v : V) (Cs : List Addr) : Stays (Ers v Cs) := fun _ _ _ S h => Paired.mapP h fun _ _ ⟨e, x, y⟩ => ⟨e, x, y.same S⟩
theorem eve_nil {v : V} : EvP tNil σ H (Ers v []) 0 := fun H1 _ Q q => q [] H1 (Same.refl _) rfl .nil
theorem eve_is {C : Addr} {v : V} {Cs : List Addr} {i : Nat} (hσ : σ[i]? = some (some v)) (hr : EvP ta σ H (Ers v Cs) m) : EvP (tCons (tErr C (tCons (tVar i) tNil)) ta) σ H (Ers v (C :: Cs)) (m + 1) :=
  fun H1 S Q q => ⟨_, hσ, v, rfl, fun a H2 na S2 ea => hr H2 (S.trans S2) _ fun vs H3 S3 l p => q _ H3 (S2.trans S3) (by rw [List.length_cons, l]) (.cons ⟨a, rfl, ea.same S3⟩ p)⟩
theorem ers_app {v : V} {Bs Cs : List Addr} : ∀ (H : Hp) (xs ys : List V), Ers v Bs H xs → Ers v Cs H ys → Ers v (Bs ++ Cs) H (xs ++ ys) := fun H xs ys h1 h2 => by
  induction h1 with
  | nil => exact h2
  | cons h _ ih => exact .cons h ih
theorem ers_get {v : V} : ∀ {Cs : List Addr} {H : Hp} {vs : List V} {i : Nat} {x : V}, Ers v Cs H vs → vs[i]? = some x → ∃ e, x = .ref e ∧ ErrAt H e (Cs.getD i 0) v
  | _, _, _, _, _, .nil, h => by simp at h
  | _, _, _, 0, _, .cons h _, e => by obtain rfl := Option.some.inj e; exact h
  | _, _, _, i + 1, _, .cons _ t, e => ers_get (i := i) t e
end
end G
namespace G
open PySem PySem.Spec PyProof.Rows L2
/-- the written part's look at an error's class -/
def ecB (K : PySem.W.Frag) (fI C : Addr) : Bool :=
  decide (PySem.W.findIn K (.ref C) "__setattr__" = some (some (.builtin "object.__setattr__"))) &&
  (decide (PySem.W.subIn K (.ref C) (.type "BaseException") = some true) &&
  (decide (PySem.W.typeIn K (.ref C) = some (.type "type")) &&
  (PySem.W.keepIn K (.ref C) &&
  (PySem.W.hasDictIn K C &&
  (decide (PySem.W.findIn K (.ref C) "__getattribute__" = some (some (.builtin "BaseException.__getattribute__"))) &&
  (decide (PySem.W.findIn K (.ref C) "__getattr__" = some none) &&
  (decide (PySem.W.findIn K (.ref C) "value" = some none) &&
  (decide (PySem.W.findIn K (.ref C) "__class__" = some (some (.builtin "object.__class__"))) &&
  (decide (PySem.W.mroIn K C (.type "object") = some true) &&
  decide (PySem.W.findIn K (.ref C) "__init__" = some (some (.ref fI))))))))))))
theorem ecB_ok {K : PySem.W.Frag} {fI C : Addr} (h : ecB K fI C = true) (c : ∃ nm q N bs bm sn sub ab col dd k0 k1 k2 k3 k5, K.lookup C = some (excClassObj nm q C N bs bm true sn sub ab col dd k0 k1 k2 k3 k5 "ValueError.__new__") ∧ PySem.HandSPX.refsVE bm = true) :
    EC K C ∧ PySem.W.findIn K (.ref C) "__init__" = some (some (.ref fI)) := by
  unfold ecB at h
  simp only [Bool.and_eq_true, decide_eq_true_eq] at h
  obtain ⟨h1, h2, h3, h4, h5, h6, h7, h8, h9, h10, h11⟩ := h
  exact ⟨⟨⟨c, h1, h2, h3, h4⟩, h5, h6, h7, h8, h9, h10⟩, h11⟩
/-- which classes are which -/
def kindsB (K : PySem.W.Frag) (cs : List Addr) (b : Addr) : Bool :=
  ((List.range cs.length).all fun j => (List.range cs.length).all fun i => decide (PySem.W.kitOne K (.ref (cs.getD j 0)) (.ref (cs.getD i 0)) = some (decide (j = i)))) &&
  (cs.all (fun c => decide (PySem.W.kitOne K (.ref b) (.ref c) = some false) && (decide (PySem.W.kitOne K (.ref c) (.ref b) = some true) && decide (PySem.W.kitOne K (.ref c) (.type "ValueError") = some true))) &&
  decide (PySem.W.kitOne K (.ref b) (.type "ValueError") = some true))
structure Kinds (K : PySem.W.Frag) (cs : List Addr) (b : Addr) : Prop where
  two : ∀ j i, j < cs.length → i < cs.length → PySem.W.kitOne K (.ref (cs.getD j 0)) (.ref (cs.getD i 0)) = some (decide (j = i))
  low : ∀ c ∈ cs, PySem.W.kitOne K (.ref b) (.ref c) = some false
  up : ∀ c ∈ cs, PySem.W.kitOne K (.ref c) (.ref b) = some true
  ve : ∀ c ∈ cs, PySem.W.kitOne K (.ref c) (.type "ValueError") = some true
  bve : PySem.W.kitOne K (.ref b) (.type "ValueError") = some true
theorem kindsB_ok {K : PySem.W.Frag} {cs : List Addr} {b : Addr} (h : kindsB K cs b = true) : Kinds K cs b := by
  unfold kindsB at h
  simp only [Bool.and_eq_true, List.all_eq_true, decide_eq_true_eq, List.mem_range] at h
  obtain ⟨h1, h2, h3⟩ := h
  exact ⟨fun j i hj hi => h1 j hj i hi, fun c hc => (h2 c hc).1, fun c hc => (h2 c hc).2.1, fun c hc => (h2 c hc).2.2, h3⟩
end G

namespace G
open PySem PySem.Spec PyProof.Rows L2

/-! ### operators of an own class whose instances have a dict -/
section
variable {prog : Program} {w : World} {A : Around} {E : Value → Shared → Prop} {s : Shared} {K : PySem.W.Frag} {x C L f f0 : Addr} {h₀ : Heap} {m : Str → Option Value} {ox : Obj} {od : Option Obj} {nm T : String}
theorem binR_K {op : Operator} {i : Int} {t : Tok} {id : String} {B : Builtin} {Q : Value → Shared → Prop} (F : Fr h₀ L s.heap m) (X₀ : K.In h₀) (I : PySem.W.InstAt s.heap x ox C od) (hc : PySem.W.selfFirst K C = true)
    (hs0 : PySem.W.findIn K (.ref C) (PySem.dunder op.info.2) = some (some (.ref f0)))
    (hs : PySem.W.findIn K (.ref C) (dunderR op.info.2) = some (some (.ref f))) (hf : PySem.W.isFn K (.ref f) = true) (hsub : PySem.W.subIn K (.ref C) (.type "int") = some false)
    (hfill : fillsNumberSlot (.type "int") op.info.2 = pure true) (slot : Slot "int" (dunder op.info.2) id) (entry : entryFor table id = some B) (args : argsOk id ⟨[.int i t, .ref x], []⟩)
    (decl : ∀ (R : Result → Shared → Prop), R (.ok (.ret .notImplemented)) s → wpAny (model prog w) A.in1 (B ⟨[.int i t, .ref x], []⟩) (GQ.FinOf prog w A R) (fun e s' => R (.error e) s') s)
    (h : wpAny (model prog w) A (call (.ref f) [.ref x, .int i t]) (PySem.W.CmpBack Q) E s) : wpAny (model prog w) A (binaryOp op (.int i t) (.ref x)) Q E s := by
  have X := X₀.keeps F.keep
  obtain ⟨cd, rest, hcd, hm⟩ := PySem.W.ksp_first hc
  rcases hi : op.info with ⟨sym, nm'⟩
  rw [hi] at hs hs0 hfill slot
  dsimp only at hs hs0 hfill slot
  have one := PySem.W.ksp_try X I hs hf h
  have L2 : PySem.W.Looks (model prog w) s.heap (typeOf (.ref x)) (.ref C) := I.type
  have L3 : PySem.W.Looks (model prog w) s.heap (fillsNumberSlot (.ref C) nm') true := PySem.W.fills_K X hcd hm hs0
  have L5 : PySem.W.Looks (model prog w) s.heap (isSubtype (.ref C) (.type "int")) false := PySem.W.looks_subIn X hsub
  have hne : (Value.type "int" == Value.ref C) = false := Bool.eq_false_iff.mpr fun q => by cases beq_iff_eq.mp q
  have hT := typeIs_int s i t
  simp only [binaryOp, hi]
  refine wpAny_holding (wpAny_bind ?_)
  unfold binaryOp1
  refine wpAny_bind (wpAny_typeOf hT (wpAny_bind (L2.here (wpAny_bind (wpAny_of_eq hfill ?_)))))
  simp only [hne, Bool.false_eq_true, if_false]
  refine wpAny_bind (L3.here ?_)
  simp only [Bool.and_self, if_true]
  refine wpAny_bind (L5.here ?_)
  have hpy : numberSlotInPython (.type "int") nm' = pure false := rfl
  simp only [Bool.false_eq_true, if_false, pure_bind, Bool.not_false, Bool.and_self, if_true, hpy]
  refine wpAny_bind (wpAny_tryMethod_declines hT slot (GQ.call_here slot hT entry args (decl _ ⟨rfl, ?_⟩)))
  refine wpAny_bind (wpAny_mono one (fun r s' hr' => ?_) fun _ _ e => e)
  obtain ⟨v, rfl, hq⟩ := hr'
  exact wpAny_bind (wpAny_rule (wpAny_pure (wpAny_pure hq)))

theorem cmpR_K {op : CmpOp} {i : Int} {t : Tok} {id : String} {B : Builtin} {Q : Value → Shared → Prop} (hu : A.units < cLine) (F : Fr h₀ L s.heap m) (X₀ : K.In h₀) (I : PySem.W.InstAt s.heap x ox C od)
    (hs : PySem.W.findIn K (.ref C) (cmpInfo op).2.2 = some (some (.ref f))) (hf : PySem.W.isFn K (.ref f) = true) (hsub : PySem.W.subIn K (.ref C) (.type "int") = some false)
    (slot : Slot "int" (cmpInfo op).2.1 id) (entry : entryFor table id = some B) (args : argsOk id ⟨[.int i t, .ref x], []⟩)
    (decl : ∀ (R : Result → Shared → Prop), R (.ok (.ret .notImplemented)) s → wpAny (model prog w) A.in1 (B ⟨[.int i t, .ref x], []⟩) (GQ.FinOf prog w A R) (fun e s' => R (.error e) s') s)
    (h : wpAny (model prog w) A (call (.ref f) [.ref x, .int i t]) (PySem.W.CmpBack Q) E s) : wpAny (model prog w) A (richCompare op (.int i t) (.ref x)) Q E s := by
  have X := X₀.keeps F.keep
  have hT := typeIs_int s i t
  have one : wpAny (model prog w) A (tryCompare (.ref x) (cmpInfo op).2.2 (.int i t)) (fun r s' => ∃ v, r = some v ∧ Q v s') E s := by
    unfold tryCompare
    refine wpAny_bind (PySem.W.ifBound_K X I hs hf (wpAny_mono h (fun v s' hv => ?_) fun _ _ e => e))
    cases v <;> first | exact hv.elim | exact wpAny_pure ⟨_, rfl, hv⟩
  have hne : (Value.type "int" != Value.ref C) = true := by
    have h0 : (Value.type "int" == Value.ref C) = false := Bool.eq_false_iff.mpr fun q => by cases beq_iff_eq.mp q
    unfold bne
    rw [h0]
    rfl
  unfold richCompare
  simp only [hT.oneThing_none]
  refine wpAny_holding (wpAny_bind (wpAny_cRoomFor hu ?_))
  refine wpAny_bind (wpAny_typeOf hT (wpAny_bind (I.type.here ?_)))
  simp only [hne, if_true]
  refine wpAny_bind ((PySem.W.looks_subIn X hsub).here ?_)
  simp only [Bool.false_eq_true, if_false, Bool.not_false, if_true]
  refine wpAny_bind (wpAny_tryCompare_declines hT slot (GQ.call_here slot hT entry args (decl _ ⟨rfl, ?_⟩)))
  refine wpAny_bind (wpAny_mono one (fun r s' z => ?_) fun _ _ e => e)
  obtain ⟨v, rfl, hq⟩ := z
  exact wpAny_pure hq
/-- what a builtin of int says to an instance -/
def Decl (B : Builtin) : Prop := ∀ (prog : Program) (w : World) (A : Around) (R : Result → Shared → Prop) (s : Shared) (i : Int) (t : Tok) (x C dx : Addr), s.heap.get? x = some (PySem.W.instObj C dx) → R (.ok (.ret .notImplemented)) s →
  wpAny (model prog w) A.in1 (B ⟨[.int i t, .ref x], []⟩) (GQ.FinOf prog w A R) (fun e s' => R (.error e) s') s
theorem decl_add : Decl Builtin.«int.__add__» := fun prog w A R s i t x C dx hl h => by
  obtain ⟨hp, g, d, tk, os⟩ := s
  wp_walk using AutoSeq1.wpAny_loadPart' hl, wpAny_load' hl
  exact h
theorem decl_sub : Decl Builtin.«int.__sub__» := fun prog w A R s i t x C dx hl h => by
  obtain ⟨hp, g, d, tk, os⟩ := s
  wp_walk using AutoSeq1.wpAny_loadPart' hl, wpAny_load' hl
  exact h
theorem decl_mul : Decl Builtin.«int.__mul__» := fun prog w A R s i t x C dx hl h => by
  obtain ⟨hp, g, d, tk, os⟩ := s
  wp_walk using AutoSeq1.wpAny_loadPart' hl, wpAny_load' hl
  exact h
theorem decl_lt : Decl Builtin.«int.__lt__» := fun prog w A R s i t x C dx hl h => by
  obtain ⟨hp, g, d, tk, os⟩ := s
  wp_walk using AutoSeq1.wpAny_loadPart' hl, wpAny_load' hl
  exact h
theorem decl_le : Decl Builtin.«int.__le__» := fun prog w A R s i t x C dx hl h => by
  obtain ⟨hp, g, d, tk, os⟩ := s
  wp_walk using AutoSeq1.wpAny_loadPart' hl, wpAny_load' hl
  exact h
theorem decl_gt : Decl Builtin.«int.__gt__» := fun prog w A R s i t x C dx hl h => by
  obtain ⟨hp, g, d, tk, os⟩ := s
  wp_walk using AutoSeq1.wpAny_loadPart' hl, wpAny_load' hl
  exact h
theorem decl_ge : Decl Builtin.«int.__ge__» := fun prog w A R s i t x C dx hl h => by
  obtain ⟨hp, g, d, tk, os⟩ := s
  wp_walk using AutoSeq1.wpAny_loadPart' hl, wpAny_load' hl
  exact h
end

section
variable {X : Cx} {CX : CXT} {pins : List (Addr × Obj)} {σ : L2.St} {H : Hp} {s : Shared} {a C dx p g f f0 : Addr} {fs : List (Str × V)} {n : Nat} {sp : Sp} {E : XK}
theorem ins_inst (I : Inv X pins σ H s) (h : H a = some (.ins C dx fs)) : ∃ (od : Obj) (mA : Str → Option Value), PySem.W.InstAt s.heap a (PySem.W.instObj C dx) C (some od) ∧ (∀ name, PySem.W.lookIn name od = some (mA name)) ∧ ∀ f, RelO (fs.lookup f) (mA f) := by
  obtain ⟨mA, J, r, _⟩ := ins_get I.hok h
  obtain ⟨od, J2, l⟩ := J.look
  exact ⟨od, mA, J2, l, r⟩
/-- a def of no defaults, by position -/
theorem fnR {fd : FuncData} {ps : List Str} (F : FnOk X.prog X.w X.K X.mg X.base CX n g fd ps sp) (b : Binds X.K fd ps []) : FnR X.prog X.w X.K X.mg X.base CX n g sp :=
  (FnOk.raw F b .nil).imp fun vs H Q E h => by rw [List.append_nil]; exact h
/-- x op y: both instances; y an int -/
def rBinK (C : Addr) (sp : Sp) (E : XK) : R2 := fun x y H Q => ∃ a b dx dy fs gs, x = .ref a ∧ y = .ref b ∧ H a = some (.ins C dx fs) ∧ H b = some (.ins C dy gs) ∧ sp [x, y] H Q E
def rBinT (C : Addr) (sp : Sp) (E : XK) : R2 := fun x y H Q => ∃ a dx fs i, x = .ref a ∧ y = .int i ∧ H a = some (.ins C dx fs) ∧ sp [x, y] H Q E
def rBinR (C : Addr) (sp : Sp) (E : XK) : R2 := fun x y H Q => ∃ a dx fs i, x = .int i ∧ y = .ref a ∧ H a = some (.ins C dx fs) ∧ sp [y, x] H Q E
/-- what the text says of the class's defs for op: __op__ at f, __rop__ at g -/
structure OpC (K : PySem.W.Frag) (C f g : Addr) (nm : String) : Prop where
  first : PySem.W.selfFirst K C = true
  at_ : PySem.W.findIn K (.ref C) (PySem.dunder nm) = some (some (.ref f))
  fn : PySem.W.isFn K (.ref f) = true
  rat : PySem.W.findIn K (.ref C) (dunderR nm) = some (some (.ref g))
  rfn : PySem.W.isFn K (.ref g) = true
  i1 : ∃ fo, PySem.W.findIn K (.type "int") (PySem.dunder nm) = some fo
  i2 : ∃ ro, PySem.W.findIn K (.type "int") (dunderR nm) = some ro
  s1 : PySem.W.subIn K (.type "int") (.ref C) = some false
  s2 : PySem.W.subIn K (.ref C) (.type "int") = some false
def opcB (K : PySem.W.Frag) (C f g : Addr) (nm : String) : Bool :=
  PySem.W.selfFirst K C && decide (PySem.W.findIn K (.ref C) (PySem.dunder nm) = some (some (.ref f))) && PySem.W.isFn K (.ref f) && decide (PySem.W.findIn K (.ref C) (dunderR nm) = some (some (.ref g))) && PySem.W.isFn K (.ref g)
    && (PySem.W.findIn K (.type "int") (PySem.dunder nm)).isSome && (PySem.W.findIn K (.type "int") (dunderR nm)).isSome && decide (PySem.W.subIn K (.type "int") (.ref C) = some false) && decide (PySem.W.subIn K (.ref C) (.type "int") = some false)
theorem opcB_ok {K : PySem.W.Frag} {C f g : Addr} {nm : String} (h : opcB K C f g nm = true) : OpC K C f g nm := by
  unfold opcB at h
  simp only [Bool.and_eq_true, decide_eq_true_eq] at h
  obtain ⟨⟨⟨⟨⟨⟨⟨⟨h1, h2⟩, h3⟩, h4⟩, h5⟩, h6⟩, h7⟩, h8⟩, h9⟩ := h
  exact ⟨h1, h2, h3, h4, h5, Option.isSome_iff_exists.mp h6, Option.isSome_iff_exists.mp h7, h8, h9⟩
theorem op_binK {op : Operator} (O : OpC X.K C f g op.info.2) (F : FnR X.prog X.w X.K X.mg X.base CX n f sp) (hr : Room n X.A) (hx : Passes CX X E) : OpR X (binaryOp op) (rBinK C sp E) := by
  intro pins s σ H x y v u Q I rx ry h
  obtain ⟨a, b, dx, dy, fs, gs, rfl, rfl, ha, hb, q⟩ := h
  cases (show v = Value.ref a from rx)
  cases (show u = Value.ref b from ry)
  obtain ⟨od, mA, J, _⟩ := ins_inst I ha
  obtain ⟨od', mA', J', _⟩ := ins_inst I hb
  obtain ⟨m, hF⟩ := I.fr
  refine PySem.W.binop_K hF I.ok.mod.kin J J'.type O.first O.at_ O.fn ?_
  refine wpAny_mono (wpAny_call (run_fnR (us := [.ref a, .ref b]) (vs := [.ref a, .ref b]) F hr hx I (.cons rfl (.cons rfl .nil)) q)) (fun w s' z => ?_) fun _ _ x => x
  obtain ⟨z', H', I', rz, qz⟩ := z
  exact SlX.cmpback rz ⟨z', H', I', rz, qz⟩
theorem op_binT {op : Operator} (O : OpC X.K C f g op.info.2) (F : FnR X.prog X.w X.K X.mg X.base CX n f sp) (hr : Room n X.A) (hx : Passes CX X E) : OpR X (binaryOp op) (rBinT C sp E) := by
  intro pins s σ H x y v u Q I rx ry h
  obtain ⟨a, dx, fs, i, rfl, rfl, ha, q⟩ := h
  cases (show v = Value.ref a from rx)
  obtain ⟨t, e⟩ := (show ∃ t, u = Value.int i t from ry)
  cases e
  obtain ⟨od, mA, J, _⟩ := ins_inst I ha
  obtain ⟨m, hF⟩ := I.fr
  obtain ⟨fo, h1⟩ := O.i1
  obtain ⟨ro, h2⟩ := O.i2
  refine PySem.W.ksp_binT hF I.ok.mod.kin J rfl O.first O.at_ O.fn O.rat (.inr ⟨g, rfl⟩) h1 h2 O.s1 ?_
  refine wpAny_mono (wpAny_call (run_fnR (us := [.ref a, .int i t]) (vs := [.ref a, .int i]) F hr hx I (.cons rfl (.cons ⟨t, rfl⟩ .nil)) q)) (fun w s' z => ?_) fun _ _ x => x
  obtain ⟨z', H', I', rz, qz⟩ := z
  exact SlX.cmpback rz ⟨z', H', I', rz, qz⟩
/-- the builtin of int for op -/
structure IntOp (nm : String) (id : String) (B : Builtin) : Prop where
  fill : fillsNumberSlot (.type "int") nm = pure true
  slot : Slot "int" (dunder nm) id
  entry : entryFor table id = some B
  args : ∀ a b, argsOk id ⟨[a, b], []⟩
  decl : Decl B
theorem io_add : IntOp "add" "int.__add__" Builtin.«int.__add__» := ⟨F.fills_int_add, F.slot_int_add, F.entry_int_add, F.args_int_add_2, decl_add⟩
theorem io_sub : IntOp "sub" "int.__sub__" Builtin.«int.__sub__» := ⟨F.fills_int_sub, F.slot_int_sub, F.entry_int_sub, F.args_int_sub_2, decl_sub⟩
theorem io_mul : IntOp "mul" "int.__mul__" Builtin.«int.__mul__» := ⟨F.fills_int_mul, F.slot_int_mul, F.entry_int_mul, F.args_int_mul_2, decl_mul⟩
theorem op_binR {op : Operator} {id : String} {B : Builtin} (O : OpC X.K C f g op.info.2) (T : IntOp op.info.2 id B) (F : FnR X.prog X.w X.K X.mg X.base CX n g sp) (hr : Room n X.A) (hx : Passes CX X E) : OpR X (binaryOp op) (rBinR C sp E) := by
  intro pins s σ H x y v u Q I rx ry h
  obtain ⟨a, dx, fs, i, rfl, rfl, ha, q⟩ := h
  cases (show u = Value.ref a from ry)
  obtain ⟨t, e⟩ := (show ∃ t, v = Value.int i t from rx)
  cases e
  obtain ⟨od, mA, J, _⟩ := ins_inst I ha
  obtain ⟨m, hF⟩ := I.fr
  refine binR_K hF I.ok.mod.kin J O.first O.at_ O.rat O.rfn O.s2 T.fill T.slot T.entry (T.args _ _) (fun R => T.decl _ _ _ R _ _ _ _ _ _ J.at_) ?_
  refine wpAny_mono (wpAny_call (run_fnR (us := [.ref a, .int i t]) (vs := [.ref a, .int i]) F hr hx I (.cons rfl (.cons ⟨t, rfl⟩ .nil)) q)) (fun w s' z => ?_) fun _ _ x => x
  obtain ⟨z', H', I', rz, qz⟩ := z
  exact SlX.cmpback rz ⟨z', H', I', rz, qz⟩
/-- comparisons: the class's def at f, the one for the other side at g -/
structure CmpC (K : PySem.W.Frag) (C f g : Addr) (op : CmpOp) : Prop where
  at_ : PySem.W.findIn K (.ref C) (cmpInfo op).2.1 = some (some (.ref f))
  fn : PySem.W.isFn K (.ref f) = true
  rat : PySem.W.findIn K (.ref C) (cmpInfo op).2.2 = some (some (.ref g))
  rfn : PySem.W.isFn K (.ref g) = true
  nf : PySem.W.notFirst K C (.ref C) = true
  nfi : PySem.W.notFirst K C (.type "int") = true
  s2 : PySem.W.subIn K (.ref C) (.type "int") = some false
def cmpcB (K : PySem.W.Frag) (C f g : Addr) (op : CmpOp) : Bool :=
  decide (PySem.W.findIn K (.ref C) (cmpInfo op).2.1 = some (some (.ref f))) && PySem.W.isFn K (.ref f) && decide (PySem.W.findIn K (.ref C) (cmpInfo op).2.2 = some (some (.ref g))) && PySem.W.isFn K (.ref g)
    && PySem.W.notFirst K C (.ref C) && PySem.W.notFirst K C (.type "int") && decide (PySem.W.subIn K (.ref C) (.type "int") = some false)
theorem cmpcB_ok {K : PySem.W.Frag} {C f g : Addr} {op : CmpOp} (h : cmpcB K C f g op = true) : CmpC K C f g op := by
  unfold cmpcB at h
  simp only [Bool.and_eq_true, decide_eq_true_eq] at h
  obtain ⟨⟨⟨⟨⟨⟨h1, h2⟩, h3⟩, h4⟩, h5⟩, h6⟩, h7⟩ := h
  exact ⟨h1, h2, h3, h4, h5, h6, h7⟩
theorem op_cmpK {op : CmpOp} (hop : ∀ a b, compareOp op a b = richCompare op a b) (O : CmpC X.K C f g op) (F : FnR X.prog X.w X.K X.mg X.base CX n f sp) (hr : Room n X.A) (hx : Passes CX X E) : OpR X (compareOp op) (rBinK C sp E) := by
  intro pins s σ H x y v u Q I rx ry h
  obtain ⟨a, b, dx, dy, fs, gs, rfl, rfl, ha, hb, q⟩ := h
  cases (show v = Value.ref a from rx)
  cases (show u = Value.ref b from ry)
  obtain ⟨od, mA, J, _⟩ := ins_inst I ha
  obtain ⟨od', mA', J', _⟩ := ins_inst I hb
  obtain ⟨m, hF⟩ := I.fr
  rw [hop]
  refine PySem.W.cmp_K (op := op) (tb := .ref C) hr.units0 hF I.ok.mod.kin J J'.type O.nf O.at_ O.fn ?_
  refine wpAny_mono (wpAny_call (run_fnR (us := [.ref a, .ref b]) (vs := [.ref a, .ref b]) F hr hx I (.cons rfl (.cons rfl .nil)) q)) (fun w s' z => ?_) fun _ _ x => x
  obtain ⟨z', H', I', rz, qz⟩ := z
  exact SlX.cmpback rz ⟨z', H', I', rz, qz⟩
theorem op_cmpT {op : CmpOp} (hop : ∀ a b, compareOp op a b = richCompare op a b) (O : CmpC X.K C f g op) (F : FnR X.prog X.w X.K X.mg X.base CX n f sp) (hr : Room n X.A) (hx : Passes CX X E) : OpR X (compareOp op) (rBinT C sp E) := by
  intro pins s σ H x y v u Q I rx ry h
  obtain ⟨a, dx, fs, i, rfl, rfl, ha, q⟩ := h
  cases (show v = Value.ref a from rx)
  obtain ⟨t, e⟩ := (show ∃ t, u = Value.int i t from ry)
  cases e
  obtain ⟨od, mA, J, _⟩ := ins_inst I ha
  obtain ⟨m, hF⟩ := I.fr
  rw [hop]
  refine PySem.W.cmp_K (op := op) (tb := .type "int") hr.units0 hF I.ok.mod.kin J (PySem.W.Looks.of_pure rfl) O.nfi O.at_ O.fn ?_
  refine wpAny_mono (wpAny_call (run_fnR (us := [.ref a, .int i t]) (vs := [.ref a, .int i]) F hr hx I (.cons rfl (.cons ⟨t, rfl⟩ .nil)) q)) (fun w s' z => ?_) fun _ _ x => x
  obtain ⟨z', H', I', rz, qz⟩ := z
  exact SlX.cmpback rz ⟨z', H', I', rz, qz⟩
structure IntCmp (op : CmpOp) (id : String) (B : Builtin) : Prop where
  slot : Slot "int" (cmpInfo op).2.1 id
  entry : entryFor table id = some B
  args : ∀ a b, argsOk id ⟨[a, b], []⟩
  decl : Decl B
theorem ic_lt : IntCmp .Lt "int.__lt__" Builtin.«int.__lt__» := ⟨F.slot_int_lt, F.entry_int_lt, F.args_int_lt_2, decl_lt⟩
theorem ic_le : IntCmp .LtE "int.__le__" Builtin.«int.__le__» := ⟨F.slot_int_le, F.entry_int_le, F.args_int_le_2, decl_le⟩
theorem ic_gt : IntCmp .Gt "int.__gt__" Builtin.«int.__gt__» := ⟨F.slot_int_gt, F.entry_int_gt, F.args_int_gt_2, decl_gt⟩
theorem ic_ge : IntCmp .GtE "int.__ge__" Builtin.«int.__ge__» := ⟨F.slot_int_ge, F.entry_int_ge, F.args_int_ge_2, decl_ge⟩
theorem op_cmpR {op : CmpOp} {id : String} {B : Builtin} (hop : ∀ a b, compareOp op a b = richCompare op a b) (O : CmpC X.K C f g op) (T : IntCmp op id B) (F : FnR X.prog X.w X.K X.mg X.base CX n g sp) (hr : Room n X.A) (hx : Passes CX X E) : OpR X (compareOp op) (rBinR C sp E) := by
  intro pins s σ H x y v u Q I rx ry h
  obtain ⟨a, dx, fs, i, rfl, rfl, ha, q⟩ := h
  cases (show u = Value.ref a from ry)
  obtain ⟨t, e⟩ := (show ∃ t, v = Value.int i t from rx)
  cases e
  obtain ⟨od, mA, J, _⟩ := ins_inst I ha
  obtain ⟨m, hF⟩ := I.fr
  rw [hop]
  refine cmpR_K hr.units0 hF I.ok.mod.kin J O.rat O.rfn O.s2 T.slot T.entry (T.args _ _) (fun R => T.decl _ _ _ R _ _ _ _ _ _ J.at_) ?_
  refine wpAny_mono (wpAny_call (run_fnR (us := [.ref a, .int i t]) (vs := [.ref a, .int i]) F hr hx I (.cons rfl (.cons ⟨t, rfl⟩ .nil)) q)) (fun w s' z => ?_) fun _ _ x => x
  obtain ⟨z', H', I', rz, qz⟩ := z
  exact SlX.cmpback rz ⟨z', H', I', rz, qz⟩
/-- -x of an instance -/
def rUnK (C : Addr) (sp : Sp) (E : XK) : V → Hp → VK → Prop := fun x H Q => ∃ a dx fs, x = .ref a ∧ H a = some (.ins C dx fs) ∧ sp [x] H Q E
theorem un_negK (hs : PySem.W.findIn X.K (.ref C) "__neg__" = some (some (.ref f))) (hf : PySem.W.isFn X.K (.ref f) = true) (F : FnR X.prog X.w X.K X.mg X.base CX n f sp) (hr : Room n X.A) (hx : Passes CX X E) : UnR X (unaryOp .USub) (rUnK C sp E) := by
  intro pins s σ H x v Q I rx h
  obtain ⟨a, dx, fs, rfl, ha, q⟩ := h
  cases (show v = Value.ref a from rx)
  obtain ⟨od, mA, J, _⟩ := ins_inst I ha
  obtain ⟨m, hF⟩ := I.fr
  exact PySem.W.ksp_neg hF I.ok.mod.kin J hs hf (wpAny_call (run_fnR (us := [.ref a]) (vs := [.ref a]) F hr hx I (.cons rfl .nil) q))
end
end G

namespace G
open PySem PySem.Spec PyProof.Rows L2

/-! ### an error that is caught and kept -/
/-- an error of the class at C that was raised once -/
def exc (a C : Addr) (d : Option Addr) : HO := .ext fun h => ∃ (oe : Obj) (vs : Array Value), h.get? a = some oe ∧ Zc (.ref C) d oe ∧ oe.data = .fields vs
theorem exc_ok {P : Program} {w : World} {H : Hp} {h : Heap} {a C : Addr} {d : Option Addr} {oe : Obj} {vs : Array Value} (e : h.get? a = some oe) (z : Zc (.ref C) d oe) (dt : oe.data = .fields vs) : ObjOk P w H h a (exc a C d) :=
  ⟨⟨oe, vs, e, z, dt⟩, ⟨oe, e⟩, fun h1 h2 ⟨o, v, x, y, u⟩ k => ⟨o, v, k _ x, y, u⟩⟩
/-- the caught error, with what it keeps -/
def Caught (H : Hp) (a C : Addr) (v : V) : Prop := ∃ d, H a = some (exc a C (some d)) ∧ H d = some (.xd [("value", v)])
theorem Caught.same {H H' : Hp} (S : Same H H') {a C : Addr} {v : V} (e : Caught H a C v) : Caught H' a C v := let ⟨d, h1, h2⟩ := e; ⟨d, S _ _ h1, S _ _ h2⟩

section
variable {X : Cx} {pins : List (Addr × Obj)} {σ : L2.St} {H : Hp} {s : Shared} {a C : Addr}
/-- an object that is there, new since the entry, is tracked from now on -/
theorem adopt {o : HO} (I : Inv X pins σ H s) (hx : X.ex = []) (na : H a = none) (n0 : X.s_0.heap.get? a = none) (nL : a ≠ X.env.locals) (nc : ∀ x c, X.env.cells.lookup x = some c → c ≠ a) (np : ∀ p ∈ X.pn ++ pins, p.1 ≠ a)
    (new : ObjOk X.prog X.w (upd H a o) s.heap a o) : Inv X pins σ (upd H a o) s := by
  have old : ∀ {b : Addr} {u : HO}, H b = some u → upd H a o b = some u := fun {b u} e => by
    rw [upd_ne (fun z => by rw [z, na] at e; cases e)]
    exact e
  refine ⟨I.ok, I.os, I.bare, ⟨I.base.keep, I.base.slot, fun b ob e n hb => ?_, I.base.there, fun b xs e => old (I.base.tups b xs e), fun b ob u e => old (I.base.frzs b ob u e), fun b ps e => ?_⟩, I.loc, I.cell, ?_, fun x c e => ?_, fun p hp => ?_,
    I.hok.laidN (fun _ _ z => z) na new, I.len⟩
  · rw [upd_ne (fun z => by rw [z, n0] at e; cases e)]
    exact I.base.free b ob e n hb
  · obtain ⟨m, z⟩ := I.base.tbls b ps e
    exact ⟨m, old z⟩
  · rw [upd_ne (Ne.symm nL)]
    exact I.free
  · rw [upd_ne (nc x c e)]
    exact I.freeC x c e
  · obtain ⟨p1, p2, p3⟩ := I.pin p hp
    exact ⟨p1, by rw [upd_ne (np p hp)]; exact p2, p3⟩
end

/-- what 'except x as n' wishes, where the error is kept by the suite -/
def wAsT (K : PySem.W.Frag) (c : Value) (i : Nat) (ts : Addr → Value → Option Addr → TS) (D : Ends) : WX := fun cls d σ H =>
  PySem.W.exmOne K cls c = some true ∧ ∃ C, cls = .ref C ∧ ∀ a, H a = none → ts a cls d { nx := fun σ' H' => D.nx (σ'.set i none) (upd H' a (exc a C d)), rt := fun _ _ => False, bk := fun _ _ => False, ct := fun _ _ => False } (σ.set i (some (.ref a))) H
section
variable {X : Cx} {x n : Str} {c : Value} {i : Nat} {body suite : List Stmt} {b₀ : Stmt} {np pos pos' : Pos} {tb : WX → TS} {ts : Addr → Value → Option Addr → TS} {Wout : WX}
theorem ps_try_asT (hx : X.ex = []) (hs : X.stack = X.env :: X.outer) (hf : X.env.frame = some X.env.locals) (hN : X.N.Nodup) (hi : X.N[i]? = some n) (hln : X.env.kindOf n = some .local) (hc : Names X x c)
    (hb : ∀ (W : WX) (pn : List (Addr × Obj)) (xe : Value → Shared → Prop), Takes (X.tr pn xe) W → PassesOwn (model X.prog X.w) X.A X.env xe → PSs (X.tr pn xe) body (tb W))
    (hsu : ∀ (a : Addr) (oe : Obj) (cls : Value) (d : Option Addr) (pn : List (Addr × Obj)), Zc cls d oe → (∃ vs, oe.data = .fields vs) → PSs (X.suite a ((a, oe) :: pn)) (b₀ :: suite) (ts a cls d)) :
    PS X (.Try body [.ExceptHandler (some (.Name x np)) (some n) (b₀ :: suite) pos'] [] [] pos) (fun D σ H => tb (wAsT X.K c i ts D) D σ H) := by
  refine ⟨fun pins s σ H D I h => ?_⟩
  have ok := I.ok
  have hfr : X.A.frames = some (X.env :: X.outer) := by rw [ok.frames, hs]
  have hloc : Loc X.env.scope n := .inl hln
  refine wpAny_Try_except ?_
  refine wpAny_mono ((hb (wAsT X.K c i ts D) (X.pn ++ pins) (fun e s₁ => wpAny (model X.prog X.w) X.A (noteFrame e X.env) (fun _ s₂ => wpAny (model X.prog X.w) X.A (setFlight e none) (fun _ s₃ =>
    wpAny (model X.prog X.w) X.A (handleBy e X.env [.ExceptHandler (some (.Name x np)) (some n) (b₀ :: suite) pos']) (SP X pins D) X.xe s₃) X.xe s₂) X.xe s₁) (fun u s' xx => ?_) PassesOwn.looking).run [] s σ H D (I.toTry _) h) (fun f s1 hsp => ?_) (fun e s1 he => he)
  · -- the catch
    obtain ⟨a, B, sI, pins', σ', H', cls, d, rfl, J', nb, up, sky, na, os, ag, hb1, C, rfl, hyes⟩ := xx
    have J : Inv X pins σ' H' sI := J'.ofTry ok
    have sky' : Sky B (X.env :: X.outer) a (Zc (.ref C) d) X.env.locals s'.heap := by rw [← hs]; exact sky
    show wpAny (model X.prog X.w) X.A (noteFrame (.ref a) X.env) _ _ _
    refine Sky.land Zc.steady hfr hf sky' fun h3 fl3 up3 => ?_
    have J3 : Inv X pins σ' H' { s' with heap := h3 } := J.landed nb fl3.1 (up.trans up3) os ag
    obtain ⟨oe3, vs3, he3, hz3, hd3⟩ := fl3.there
    have notFr : ∀ {h : Heap} {o : Obj} {vs : Array Value}, h.FunFrames B (X.env :: X.outer) → h.get? a = some o → o.data = .fields vs → a ∉ frs (X.env :: X.outer) := fun {h o vs} ff e dd hm => by
      obtain ⟨_, o', e', hnf⟩ := ff.mem hm
      rw [e] at e'; cases e'
      exact hnf _ dd
    have nfr := notFr fl3.2.2.1 he3 hd3
    have nL : a ≠ X.env.locals := fun z => nfr (List.mem_filterMap.mpr ⟨X.env, List.mem_cons_self, by rw [hf, z]⟩)
    have nF : a ∉ X.fs := fun hm => by
      obtain ⟨e, he, q⟩ := List.mem_filterMap.mp hm
      exact nfr (List.mem_filterMap.mpr ⟨e, List.mem_cons_of_mem _ he, q⟩)
    have nI : sI.heap.get? a = none := by
      cases e : sI.heap.get? a with
      | none => rfl
      | some o =>
        have z := nb a o e (by rw [hs]; exact nfr)
        rw [fl3.2.1] at z
        cases z
    have n0 : X.s_0.heap.get? a = none := by
      cases e : X.s_0.heap.get? a with
      | none => rfl
      | some o =>
        obtain ⟨o', z⟩ := J.base.there a o e (by rw [hx]; exact fun z => nomatch z)
        rw [nI] at z
        cases z
    have S3 := J3.suite he3 hd3 na nL nF
    refine wpAny_handleBy_cons (codeAny_handlers_test ?_) (by intro q; cases q)
    have LT : PySem.W.Looks (model X.prog X.w) h3 (typeOf (.ref a)) (.ref C) := fun A Q E s k q => wpAny_typeOf_ref (k _ _ he3) (by rw [hz3.1]; exact q)
    have LM := PySem.W.exm_one (M := model X.prog X.w) (J3.kIn) LT hb1
    have test : ∀ {Q : Value → Shared → Prop} {E : Value → Shared → Prop}, Q c { s' with heap := h3 } → wpAny (model X.prog X.w) (X.A.mark (some (.ref a))) (eval (.Name x np) X.env) Q E { s' with heap := h3 } := fun {Q E} q => by
      obtain ⟨hg, hdbg, hm | ⟨hm, hv, hnn⟩⟩ := hc
      · exact ld_glob (X := X.suite a ((a, oe3) :: (X.pn ++ pins))) S3 hg hm q hdbg
      · exact ld_blt (X := X.suite a ((a, oe3) :: (X.pn ++ pins))) S3 hg hm hv q hnn hdbg
    refine test (LM.here ?_)
    refine codeAny_handlers_suite_as ?_
    refine HandSPX.lands_againZ fl3 fun h4 fl4 up4 => ?_
    have J4 : Inv X pins σ' H' { s' with heap := h4 } := J.landed nb fl4.1 ((up.trans up3).trans up4) os ag
    obtain ⟨oe4, vs4, he4, hz4, hd4⟩ := fl4.there
    have S4 := J4.suite he4 hd4 na nL nF
    refine store_ok (X := X.suite a ((a, oe4) :: (X.pn ++ pins))) (v := .ref a) S4 hN hi hloc rfl (fun s5 S5 => ?_) (.inr hln)
    refine wpAny_mono ((hsu a oe4 (.ref C) d (X.pn ++ pins) hz4 ⟨_, hd4⟩).run [] s5 _ H' _ S5 (hyes a na)) (fun f s6 hsp => ?_) (fun _ _ z => False.elim z)
    cases f with
    | next =>
      obtain ⟨σ6, H6, S6, q6⟩ := hsp
      have P6 : Inv X ((a, oe4) :: pins) σ6 H6 s6 := ⟨ok, S6.os, S6.bare, S6.base, S6.loc, S6.cell, S6.free, S6.freeC, fun p hp => S6.pin p (by
        have hp' : p ∈ (a, oe4) :: (X.pn ++ pins) := by
          rcases List.mem_append.mp hp with z | z
          · exact List.mem_cons_of_mem _ (List.mem_append_left _ z)
          · rcases List.mem_cons.mp z with z | z
            · rw [z]; exact List.mem_cons_self
            · exact List.mem_cons_of_mem _ (List.mem_append_right _ z)
        exact List.mem_append_left _ hp'), S6.hok, S6.len⟩
      refine gone_ok P6 hN hi hln fun s7 J7 => ?_
      obtain ⟨e7, na7, nL7, nF7, nc7⟩ := J7.pin (a, oe4) (List.mem_append_right _ List.mem_cons_self)
      have K7 : Inv X pins (σ6.set i none) H6 s7 := ⟨ok, J7.os, J7.bare, J7.base, J7.loc, J7.cell, J7.free, J7.freeC, fun p hp => J7.pin p (by
        rcases List.mem_append.mp hp with z | z
        · exact List.mem_append_left _ z
        · exact List.mem_append_right _ (List.mem_cons_of_mem _ z)), J7.hok, J7.len⟩
      refine ⟨_, _, adopt K7 hx na7 n0 nL (fun y cc e z => ?_) (fun p hp z => ?_) (exc_ok e7 hz4 hd4), q6⟩
      · obtain ⟨v, o, ho, hd⟩ := J7.cell y cc e
        rw [z, e7] at ho
        cases ho
        exact nc7 _ hd
      · have w := (J.pin p hp).1
        rw [z, nI] at w
        cases w
    | brk =>
      obtain ⟨σ6, H6, S6, q6⟩ := hsp
      exact q6.elim
    | cont =>
      obtain ⟨σ6, H6, S6, q6⟩ := hsp
      exact q6.elim
    | ret u =>
      obtain ⟨v6, σ6, H6, S6, r6, q6⟩ := hsp
      exact q6.elim
  · cases f with
    | next =>
      obtain ⟨σ', H', J', q⟩ := hsp
      exact wpAny_execs_nil ⟨σ', H', J'.ofTry ok, q⟩
    | brk =>
      obtain ⟨σ', H', J', q⟩ := hsp
      exact ⟨σ', H', J'.ofTry ok, q⟩
    | cont =>
      obtain ⟨σ', H', J', q⟩ := hsp
      exact ⟨σ', H', J'.ofTry ok, q⟩
    | ret u =>
      obtain ⟨v, σ', H', J', r, q⟩ := hsp
      exact ⟨v, σ', H', J'.ofTry ok, r, q⟩
end

/-! ### what is read of it -/
section
variable {X : Cx}
theorem caught_inst {pins : List (Addr × Obj)} {σ : L2.St} {H : Hp} {s : Shared} (I : Inv X pins σ H s) {a C : Addr} {v : V} (e : Caught H a C v) :
    ∃ (ox : Obj) (od : Obj) (mA : Str → Option Value) (dx : Addr), PySem.W.InstAt s.heap a ox C (some od) ∧ s.heap.Ns1 dx mA ∧ s.heap.get? dx = some od ∧ (∀ f, RelO (([("value", v)] : List (Str × V)).lookup f) (mA f)) := by
  obtain ⟨d, h1, h2⟩ := e
  obtain ⟨⟨oe, vs, ho, hz, dt⟩, _, _⟩ := (show ObjOk X.prog X.w H s.heap a (exc a C (some d)) from I.hok a _ h1)
  obtain ⟨mA, hn, hr⟩ := (show ObjOk X.prog X.w H s.heap d (.xd [("value", v)]) from I.hok d _ h2)
  obtain ⟨o, es, ep, hd, hz'⟩ := id hn
  refine ⟨oe, o, mA, d, ⟨ho, hz.1, ?_, ?_⟩, hn, hd, hr⟩
  · unfold PySem.W.notCls
    rw [dt]
  · rw [hz.2]
    exact hd
/-- e.value -/
theorem pe_valueC {e : Expr} {te : TE} {pos : Pos} (he : PE X e te) (hb : attributeBase e "value" X.env (eval e X.env) = eval e X.env := by rfl) :
    PE X (.Attribute e "value" pos) (fun σ H Q => te σ H fun x H1 => ∃ a C v, x = .ref a ∧ EC X.K C ∧ Caught H1 a C v ∧ Q v H1) := by
  constructor
  intro pins s σ H Q I h
  refine attr_of hb (thn (he.run pins s σ H _ I h) ?_)
  rintro u s1 ⟨x, H1, I1, rx, a, C, v, rfl, T, ea, q⟩
  cases rx
  obtain ⟨ox, od, mA, dx, J, hn, hd, hr⟩ := caught_inst I1 ea
  obtain ⟨od', hod, hl⟩ := lookIn_ns hn
  have eo : od' = od := Option.some.inj (hod.symm.trans hd)
  subst eo
  obtain ⟨u, hu, ru⟩ := RelO.some_of (v := v) (o := mA "value") (by have := hr "value"; simpa [List.lookup] using this)
  exact HandSPX.exc_get I1.kIn J T.ga T.gg T.ox.exC (PySem.W.findObj_own T.hd T.nv rfl (by rw [hl, hu])) (handed_of ru) ⟨v, H1, I1.tok _, ru, q⟩
/-- isinstance(e, C) of such an error, or of None -/
theorem call_isCaught (S : EK X.K) : CallR X (.builtin "isinstance") (fun xs H Q => ∃ (a C : Addr) (v c : V) (u : Value) (b : Bool), xs = [.ref a, c] ∧ ClsV c u ∧ EC X.K C ∧ Caught H a C v ∧ PySem.W.kitOne X.K (.ref C) u = some b ∧ Q (.bl b) H) := by
  intro pins s σ H xs us Q I r h
  obtain ⟨a, C, v, c, u, b, rfl, k, T, ea, e, q⟩ := h
  obtain ⟨u1, u2, rfl, r1, r2⟩ := vals2 r
  have e2 := k.eq r2
  subst e2
  cases r1
  obtain ⟨ox, od, mA, dx, J, hn, hd, hr⟩ := caught_inst I ea
  exact PySem.W.kia_one (PySem.W.kitx_exc (gt := none) T.cls T.ga T.gg T.ox.exC T.kl S.sp S.tk T.ob) I.kIn J e (fun z => nomatch z) fun tk => ⟨.bl b, H, I.tok tk, rfl, q⟩
end
end G

namespace G
open PySem PySem.Spec PyProof.Rows L2 LamX

/-! ### a lambda handed to a def that catches what it raises; the wish may look at the slots -/
section
variable {X : Cx} {pins : List (Addr × Obj)} {σ : L2.St} {H HZ : Hp} {s s1 : Shared}
/-- the lambda's own name and object -/
abbrev lamName (X : Cx) : Str := X.env.qual ++ "<lambda>"
abbrev lamObj (X : Cx) (params : Arguments) (body : Expr) (scope : Scope) (pm : Value) (c' : Addr) (ctv : Value) : Obj := PySem.W.kla_obj "<lambda>" (lamName X) params body scope (cloFrom X.env.cells scope.names []) pm c' ctv
theorem lam_runs {A : Around} {outer : List Env} {E : XK} {Q : VK} {f c' : Addr} {pm ctv : Value} {params : Arguments} {body : Expr} {scope : Scope} {k : Nat} {tb : TE}
    (I : Inv X pins σ H s) (L : LamS X.env.scope scope) (of : s1.heap.get? f = some (lamObj X params body scope pm c' ctv)) (un : Un (frs X.stack) [] H HZ s.heap s1.heap)
    (e0 : Env0 X.prog X.w X.K X.mg X.base A outer s1 HZ) (hr : Room (k + 1) A) (hc : HZ c' = some (CodeO c' (lamName X)))
    (nb : bindArgs (PySem.W.kla_fn "<lambda>" (lamName X) params body scope (cloFrom X.env.cells scope.names []) pm (.ref c') ctv) ⟨[], []⟩ = pure [])
    (bd : Room k (A.deeper (lamEnv X scope s1.heap.objs.size f c')) → PE (lamCx X A outer s1 HZ E scope f c') body tb) (ht : tb σ HZ Q) :
    codeAny (model X.prog X.w) A (.call (.ref f) ⟨[], []⟩) (CR (L2.CX X.prog X.w) outer X.prog X.w HZ s1 Q E) s1 := by
  have lim : s1.heap.NoLimit := e0.mod.nolimit.keeps fun b o e => (e0.bs b o e).1
  obtain ⟨⟨oc, vs, t, g1, g2, g3⟩, _, _⟩ := (show ObjOk X.prog X.w HZ s1.heap c' (CodeO c' (lamName X)) from e0.hok c' _ hc)
  apply PySem.W.kla_callFunE hr.depth of rfl L.co L.gen rfl ⟨c', oc, vs, t, rfl, g1, g2, g3⟩
  rw [nb]
  apply wpAny_pure
  apply wpAny_newFunctionEnv (fun y hy => (L.own y hy).2) (fun y hy => absurd hy (by simp)) _ L.kind
  intro h₁ hns hsb
  refine ⟨lim.fresh _ hsb, ?_⟩
  have kp : ∀ b o, s1.heap.get? b = some o → h₁.get? b = some o := by
    intro b o e
    exact hsb.extBut b o (Nat.ne_of_lt (Heap.lt_size e)) (Heap.get?_push_of_some _ e)
  have J := lam_start2 (f := f) (c' := c') (tk := s1.toks + ([] : List (Str × Value)).length) (E := E) I L e0 hr.hd un hns kp
  apply PySem.W.kla_codeExpr
  apply wpAny_mono ((bd (hr.deeper _)).run [] _ _ HZ Q J ht)
  · rintro v s' ⟨w', H', J', rv, q⟩
    exact ⟨w', H', J'.os, J'.bare, J'.base, J'.hok, rv, q⟩
  · exact fun _ _ z => z
/-- a(), in the def that got it -/
theorem pe_ask {CXg : CXT} {Eg : XK} {Ng : List Str} {qg : Str} {sg : Scope} {g f c' : Addr} {cdg pm ctv : Value} {params : Arguments} {body : Expr} {scope : Scope} {k i : Nat} {a : Str} {pn : List (Addr × Obj)} {xe : Value → Shared → Prop} {W : WX} {tb : XK → TE} {p1 p2 : Pos}
    (I : Inv X pins σ H s) (L : LamS X.env.scope scope) (hf : s.heap.get? f = some (lamObj X params body scope pm c' ctv)) (hfn : H f = none) (hfr : f ∉ frs X.stack)
    (nb : bindArgs (PySem.W.kla_fn "<lambda>" (lamName X) params body scope (cloFrom X.env.cells scope.names []) pm (.ref c') ctv) ⟨[], []⟩ = pure [])
    (tk : Takes ((cxOf CXg X.prog X.w X.K X.mg X.base Ng qg sg g cdg X.A X.stack s H Eg).tr pn xe) W) (hr : Room (k + 1) (X.A.deeper (envOfC qg sg s.heap.objs.size g cdg)))
    (bd : ∀ (E : XK) (A : Around) (outer : List Env) (s : Shared) (H : Hp), Room k (A.deeper (lamEnv X scope s.heap.objs.size f c')) → PE (lamCx X A outer s H E scope f c') body (tb E))
    (hN : Ng[i]? = some a) (hv : Vis sg a) (hd : (a == ("__debug__" : Str)) = false := by decide) (hcd : (a == ("__classdict__" : Str)) = false := by decide) :
    PE ((cxOf CXg X.prog X.w X.K X.mg X.base Ng qg sg g cdg X.A X.stack s H Eg).tr pn xe) (.Call (.Name a p1) [] [] p2)
      (fun σZ HZ Q => σZ[i]? = some (some (.ref f)) ∧ HZ c' = some (CodeO c' (lamName X)) ∧ tb (fun cls d H' => W cls d σZ H') σ HZ Q) := by
  constructor
  rintro pZ sZ σZ HZ Q IZ ⟨hs, hc, ht⟩
  apply wpAny_Call_Name_kw
  apply thn ((pe_var (pos := p1) (i := i) hN hv hd hcd).run pZ sZ σZ HZ (fun v H1 => v = .ref f ∧ H1 = HZ) IZ ⟨.ref f, hs, rfl, rfl⟩)
  rintro u s1 ⟨v, H1, I1, r1, rfl, rfl⟩
  obtain rfl : u = Value.ref f := r1
  have un : Un (frs X.stack) [] H H1 s.heap s1.heap := I1.base
  have of1 := un.keep f _ hf hfn hfr (fun z => nomatch (show f ∈ ([] : List Addr) from z))
  apply PySem.W.callWith_F0 ⟨_, _, _, _, of1⟩
  have rc := lam_runs (E := fun cls d H' => W cls d σZ H') (Q := Q) I L of1 un I1.env0 hr hc nb (fun h => bd _ _ _ _ _ h) ht
  apply wpAny_call
  apply codeAny_mono rc
  intro r s' hq
  match r, hq with
  | .error e, hq => exact passAt tk σZ pZ H1 s1 e s' I1 hq
  | .ok .next, hq => exact hq.elim
  | .ok .brk, hq => exact hq.elim
  | .ok .cont, hq => exact hq.elim
  | .ok (.ret w), hq => exact I1.after hq
/-- what a def makes of the lambda that it calls as a: TT, from the lambda's reading -/
def Asks (X : Cx) (Ng : List Str) (x : Str) (sg : Scope) (g : Addr) (cdg : Value) (bg : List Stmt) (a : Str) (q : Str) (TT : (XK → Hp → VK → Prop) → Hp → VK → Prop) : Prop :=
  ∀ (f c' : Addr) (s : Shared) (H : Hp) (Q : VK) (tl : XK → Hp → VK → Prop),
    (∀ (W : WX) (pn : List (Addr × Obj)) (xe : Value → Shared → Prop) (p1 p2 : Pos), Takes ((cxOf C8.CX0 X.prog X.w X.K X.mg X.base Ng x sg g cdg X.A X.stack s H C8.E0).tr pn xe) W →
      PE ((cxOf C8.CX0 X.prog X.w X.K X.mg X.base Ng x sg g cdg X.A X.stack s H C8.E0).tr pn xe) (.Call (.Name a p1) [] [] p2) (fun σZ HZ Q => σZ[0]? = some (some (.ref f)) ∧ HZ c' = some (CodeO c' q) ∧ tl (fun cls d H' => W cls d σZ H') HZ Q)) →
    H c' = some (CodeO c' q) → TT tl H Q →
    ∃ t, PSs (cxOf C8.CX0 X.prog X.w X.K X.mg X.base Ng x sg g cdg X.A X.stack s H C8.E0).nox bg t ∧ t { nx := fun _ H' => Q .non H', rt := Q } (L2.start Ng [.ref f]) H
/-- x(lambda: body) -/
theorem pe_asks {T : List (Addr × Str)} {TT : (XK → Hp → VK → Prop) → Hp → VK → Prop} {x a : Str} {g c P : Addr} {k : Nat} {pg : Arguments} {bg : List Stmt} {sg : Scope} {dV kV doc pm cdv ct oc : Value} {an od : Option Addr} {osl : Array (Option Value)} {Ng : List Str}
    {params : Arguments} {body : Expr} {scope : Scope} {t : XK → TE} {p lpos pos : Pos} (hg : Gl X x) (hm : X.mg x = some (.ref g)) (hk : PySem.W.keepIn X.K (.ref g) = true)
    (lk : X.K.lookup g = some ⟨oc, od, .func (PySem.W.fnOf x x pg bg sg dV kV doc pm an cdv ct), osl⟩) (hcg : PySem.W.codeIn X.K cdv x = true) (hb : L2.Binds X.K (PySem.W.fnOf x x pg bg sg dV kV doc pm an cdv ct) [a] []) (Sg : FnScope Ng [a] sg) (hNg : Ng[0]? = some a) (hva : Vis sg a)
    (hG : Asks X Ng x sg g cdv bg a (lamName X) TT)
    (TB : TabB X.base X.mg c P) (hcode : X.env.code = .ref c) (hmT : (P, lamName X) ∈ T) (hu : ∀ p ∈ T, p.1 = P → p.2 = lamName X) (hr : Room (k + 2) X.A) (L : LamS X.env.scope scope) (hdef : defaultsOf params X.env = ([], []))
    (nb : ∀ (q : Str) (cl : List (Str × Addr)) (pm cv ctv : Value), bindArgs (PySem.W.kla_fn "<lambda>" q params body scope cl pm cv ctv) ⟨[], []⟩ = pure [])
    (bd : ∀ (A : Around) (outer : List Env) (s : Shared) (H : Hp) (E : XK) (f c' : Addr), Room k (A.deeper (lamEnv X scope s.heap.objs.size f c')) → PE (lamCx X A outer s H E scope f c') body (t E))
    (hdb : (x == ("__debug__" : Str)) = false := by decide) (hd : (a == ("__debug__" : Str)) = false := by decide) (hcd : (a == ("__classdict__" : Str)) = false := by decide) :
    PE X (.Call (.Name x p) [.Lambda params body scope lpos] [] pos) (tLam T TT t) := by
  constructor
  rintro pins s σ H Q I ⟨hT, h⟩
  apply wpAny_Call_Name_kw
  apply ld_glob I hg hm _ hdb
  refine PySem.W.callWith_K (h₀ := X.base) I.ok.mod.kin hk ?_ (by rfl) (by rfl)
  show wpAny _ _ (spliced ((false, eval (.Lambda params body scope lpos) X.env) :: backTo pos (starEach [] X.env))) _ _ s
  apply Calls.spliced_cons
  apply lam_make2 I TB hcode hmT hu hT hdef (L.has I.ok)
  intro f c' pm' ctv H1 s' I1 eN T1 hf hfn hfr hco
  refine Calls.spliced_nil ⟨I1.kIn, ?_⟩
  have rc : codeAny (model X.prog X.w) X.A (.call (.ref g) ⟨[.ref f], []⟩) (CR C8.CX0 X.stack X.prog X.w H1 s' Q C8.E0) s' := by
    refine run_ofS (N := Ng) (ps := [a]) (us := [.ref f]) (vs := [.ref f]) lk hcg Sg hr I1.env0 (hb s' [.ref f] I1.kIn rfl) (.cons rfl .nil) rfl fun hr' => ?_
    obtain ⟨t', ht', hq'⟩ := hG f c' s' H1 Q (fun E H' Q' => t E σ H' Q') (fun W pn xe p1 p2 tk => pe_ask (i := 0) (tb := t) I1 L hf hfn hfr (nb _ _ _ _ _) tk hr' (fun E A outer s H hr2 => bd A outer s H E f c' hr2) hNg hva hd hcd) hco (h H1 eN T1)
    exact ⟨t', ht'.nox, hq'⟩
  apply wpAny_call
  apply codeAny_mono rc
  intro r s2 hq
  match r, hq with
  | .error e, hq => exact (show False from hq).elim
  | .ok .next, hq => exact hq.elim
  | .ok .brk, hq => exact hq.elim
  | .ok .cont, hq => exact hq.elim
  | .ok (.ret w), hq => exact I1.after hq
end
end G

namespace G

/-! ### fractions in least terms -/
/-- what both are divided by -/
def byOf (n u : Int) : Int := if u < 0 then -((Nat.gcd n.natAbs u.natAbs : Nat) : Int) else ((Nat.gcd n.natAbs u.natAbs : Nat) : Int)
def rNum (n u : Int) : Int := n.fdiv (byOf n u)
def rUnd (n u : Int) : Int := u.fdiv (byOf n u)
structure Red (n u : Int) : Prop where
  pos : 0 < u
  one : Nat.gcd n.natAbs u.natAbs = 1
theorem g_pos {n u : Int} (h : u ≠ 0) : 0 < Nat.gcd n.natAbs u.natAbs := Nat.gcd_pos_of_pos_right _ (by omega)
theorem byOf_ne {n u : Int} (h : u ≠ 0) : byOf n u ≠ 0 := by
  have := g_pos (n := n) h
  unfold byOf
  split <;> omega
theorem byOf_abs {n u : Int} : (byOf n u).natAbs = Nat.gcd n.natAbs u.natAbs := by
  unfold byOf
  split <;> omega
theorem byOf_le {n u : Int} (h : u ≠ 0) : (byOf n u).natAbs ≤ u.natAbs := by
  rw [byOf_abs]
  exact Nat.le_of_dvd (by omega) (Nat.gcd_dvd_right _ _)
theorem byOf_num {n u : Int} : byOf n u ∣ n := by
  rw [← Int.natAbs_dvd_natAbs, byOf_abs]
  exact Nat.gcd_dvd_left _ _
theorem byOf_und {n u : Int} : byOf n u ∣ u := by
  rw [← Int.natAbs_dvd_natAbs, byOf_abs]
  exact Nat.gcd_dvd_right _ _
theorem fd_of {c n : Int} (hc : c ≠ 0) (h : c ∣ n) : c * n.fdiv c = n := by
  rw [Int.fdiv_eq_ediv_of_dvd h]
  exact Int.mul_ediv_cancel' h
theorem num_mul {n u : Int} (h : u ≠ 0) : byOf n u * rNum n u = n := fd_of (byOf_ne h) byOf_num
theorem und_mul {n u : Int} (h : u ≠ 0) : byOf n u * rUnd n u = u := fd_of (byOf_ne h) byOf_und
theorem red_of {n u : Int} (h : u ≠ 0) : Red (rNum n u) (rUnd n u) := by
  have h1 := num_mul (n := n) h
  have h2 := und_mul (n := n) h
  have hg := g_pos (n := n) h
  constructor
  · by_cases hu : u < 0
    · have e : byOf n u < 0 := by
        unfold byOf
        rw [if_pos hu]
        omega
      rcases Int.lt_trichotomy (rUnd n u) 0 with z | z | z
      · have := Int.mul_pos_of_neg_of_neg e z
        omega
      · rw [z, Int.mul_zero] at h2
        omega
      · exact z
    · have e : 0 < byOf n u := by
        unfold byOf
        rw [if_neg hu]
        omega
      rcases Int.lt_trichotomy (rUnd n u) 0 with z | z | z
      · have := Int.mul_neg_of_pos_of_neg e z
        omega
      · rw [z, Int.mul_zero] at h2
        omega
      · exact z
  · have e1 : n.natAbs = Nat.gcd n.natAbs u.natAbs * (rNum n u).natAbs := by
      have := congrArg Int.natAbs h1
      rw [Int.natAbs_mul, byOf_abs] at this
      exact this.symm
    have e2 : u.natAbs = Nat.gcd n.natAbs u.natAbs * (rUnd n u).natAbs := by
      have := congrArg Int.natAbs h2
      rw [Int.natAbs_mul, byOf_abs] at this
      exact this.symm
    have e3 : Nat.gcd n.natAbs u.natAbs = Nat.gcd n.natAbs u.natAbs * Nat.gcd (rNum n u).natAbs (rUnd n u).natAbs := by
      rw [← Nat.gcd_mul_left, ← e1, ← e2]
    exact Nat.eq_of_mul_eq_mul_left hg (by omega)
theorem Red.same {n u : Int} (r : Red n u) : rNum n u = n ∧ rUnd n u = u := by
  have e : byOf n u = 1 := by
    unfold byOf
    rw [r.one, if_neg (by have := r.pos; omega)]
    rfl
  unfold rNum rUnd
  rw [e]
  exact ⟨Int.fdiv_one _, Int.fdiv_one _⟩
theorem Red.neg {n u : Int} (r : Red n u) : Red (-n) u := ⟨r.pos, by rw [Int.natAbs_neg]; exact r.one⟩
theorem Red.abs {n u : Int} (r : Red n u) : Red (if n < 0 then -n else n) u := by
  split
  · exact r.neg
  · exact r
theorem red_int (n : Int) : Red n 1 := ⟨by decide, by rw [show (1 : Int).natAbs = 1 from rfl, Nat.gcd_one_right]⟩
theorem num_le {n u : Int} (h : u ≠ 0) : (rNum n u).natAbs ≤ n.natAbs := by
  have h1 := num_mul (n := n) h
  have hg := g_pos (n := n) h
  have := congrArg Int.natAbs h1
  rw [Int.natAbs_mul, byOf_abs] at this
  rw [← this]
  exact Nat.le_mul_of_pos_left _ hg
theorem und_le {n u : Int} (h : u ≠ 0) : (rUnd n u).natAbs ≤ u.natAbs := by
  have h1 := und_mul (n := n) h
  have hg := g_pos (n := n) h
  have := congrArg Int.natAbs h1
  rw [Int.natAbs_mul, byOf_abs] at this
  rw [← this]
  exact Nat.le_mul_of_pos_left _ hg
/-- one step of the law's own greatest common divisor -/
theorem gcd_step {a b : Int} (ha : 0 ≤ a) (hb : 0 < b) : Nat.gcd b.natAbs (a.fmod b).natAbs = Nat.gcd a.natAbs b.natAbs := by
  rw [Int.fmod_eq_emod_of_nonneg a (by omega)]
  obtain ⟨m, rfl⟩ := Int.eq_ofNat_of_zero_le ha
  obtain ⟨k, rfl⟩ := Int.eq_ofNat_of_zero_le (Int.le_of_lt hb)
  show Nat.gcd k ((m : Int) % (k : Int)).natAbs = Nat.gcd m k
  rw [show ((m : Int) % (k : Int)).natAbs = m % k by omega, Nat.gcd_comm k, ← Nat.gcd_rec, Nat.gcd_comm]
end G

namespace G
open PySem PySem.Spec PyProof.Rows L2 PySem.Calls

/-! ### abs and repr of instances; repr of longer data -/
section
variable {prog : Program} {w : World} {A : Around} {E : Value → Shared → Prop} {s : Shared} {K : PySem.W.Frag} {x C f : Addr} {ox : Obj} {od : Option Obj}
theorem abs_K {Q : Value → Shared → Prop} (X : K.In s.heap) (I : PySem.W.InstAt s.heap x ox C od) (hs : PySem.W.findIn K (.ref C) "__abs__" = some (some (.ref f))) (hf : PySem.W.isFn K (.ref f) = true)
    (h : wpAny (model prog w) A.in1 (call (.ref f) [.ref x]) Q E s) : wpAny (model prog w) A (call (.builtin "abs") [.ref x]) Q E s := by
  apply call_function_entry kind_abs plain_abs entry_abs (args_abs _)
  unfold Builtin.«abs»
  refine wpAny_bind (m := oneArg "abs" _) (wpAny_pure ?_)
  refine wpAny_bind (m := callSpecial? (.ref x) (Str.ofString "__abs__")) (PySem.W.special_fn X I hs (beq_iff_eq.mp hf) (wpAny_mono h (fun v s' z => ?_) fun _ _ y => y))
  exact wpAny_pure ⟨_, rfl, z⟩
end
section
variable {X : Cx} {CX : CXT} {n : Nat} {C f : Addr} {sp : Sp} {E : XK}
/-- abs(x), repr(x) of an instance -/
def rOneK (C : Addr) (sp : Sp) (E : XK) : List V → Hp → VK → Prop := fun xs H Q => ∃ a dx fs, xs = [.ref a] ∧ H a = some (.ins C dx fs) ∧ sp [.ref a] H Q E
theorem call_absK (hs : PySem.W.findIn X.K (.ref C) "__abs__" = some (some (.ref f))) (hf : PySem.W.isFn X.K (.ref f) = true) (F : FnR X.prog X.w X.K X.mg X.base CX n f sp) (hr : Room (n + 1) X.A) (hx : Passes CX X E) :
    CallR X (.builtin "abs") (rOneK C sp E) := by
  intro pins s σ H xs us Q I r h
  obtain ⟨a, dx, fs, rfl, ha, q⟩ := h
  obtain ⟨u, rfl, ru⟩ := vals1 r
  cases (show u = Value.ref a from ru)
  obtain ⟨od, mA, J, _⟩ := ins_inst I ha
  have hr1 : Room n X.A.in1 := Room.in1 hr
  exact abs_K I.kIn J hs hf (wpAny_call (SlX.run_at (us := [.ref a]) (ws := [.ref a]) F hr1 I.env0.in1 hx I (.cons rfl .nil) q))
theorem call_reprK (hs : PySem.W.findIn X.K (.ref C) "__repr__" = some (some (.ref f))) (hf : PySem.W.isFn X.K (.ref f) = true) (F : FnR X.prog X.w X.K X.mg X.base CX n f sp) (hr : Room (n + 1) X.A) (hx : Passes CX X E) :
    CallR X (.builtin "repr") (fun xs H Q => ∃ a dx fs, xs = [.ref a] ∧ H a = some (.ins C dx fs) ∧ sp [.ref a] H (fun v H' => ∃ t, v = .str t ∧ Q v H') E) := by
  intro pins s σ H xs us Q I r h
  obtain ⟨a, dx, fs, rfl, ha, q⟩ := h
  obtain ⟨u, rfl, ru⟩ := vals1 r
  cases (show u = Value.ref a from ru)
  obtain ⟨od, mA, J, _⟩ := ins_inst I ha
  obtain ⟨m, hF⟩ := I.fr
  have hr1 : Room n X.A.in1 := Room.in1 hr
  refine PySem.W.repr_K hr1.units0 hF I.ok.mod.kin J hs hf (wpAny_mono (wpAny_call (SlX.run_at (us := [.ref a]) (ws := [.ref a]) F hr1 I.env0.in1 hx I (.cons rfl .nil) q)) (fun v s' z => ?_) fun _ _ y => y)
  obtain ⟨z, H', I', rz, t, rfl, q'⟩ := z
  obtain ⟨tk, e⟩ := (show ∃ tk, v = Value.str t tk from rz)
  cases e
  exact ⟨.str t, H', I', ⟨tk, rfl⟩, q'⟩
/-- repr of data of any leaves, its length told -/
theorem call_reprL (hq : Quiet X.A) (hu : X.A.units + 64 < cLine) : CallR X (.builtin "repr") (fun xs H Q => ∃ v d, xs = [v] ∧ Da H v d ∧ d.showable = true ∧ d.depth ≤ 20 ∧ d.shown.length ≤ sizeLine ∧ Q (.str d.shown) H) := by
  intro pins s σ H xs us Q I r h
  obtain ⟨v, d, rfl, hd, hz, hk, fits, q⟩ := h
  obtain ⟨u, rfl, ru⟩ := vals1 r
  have tail : ∀ (A : Addr), u = .ref A → wpAny (model X.prog X.w) X.A (call (.builtin "repr") [u]) (EP X pins σ Q) X.xe s := by
    rintro a rfl
    obtain ⟨as, hr, hns⟩ := Da.reads I hd ru
    refine repr_of_reads' (h₀ := s.heap) hr hz (fun _ => hns) hq (by omega) (fun _ _ z => z) (fun h' t tk hk => ?_) fits
    exact ⟨.str d.shown, H, I.kept hk, ⟨_, rfl⟩, q⟩
  cases hd with
  | non => cases ru; exact P.repr_of_none ⟨.str _, H, I.tok _, ⟨_, rfl⟩, q⟩
  | bl b =>
    cases ru
    refine P.repr_of_bool ?_
    exact ⟨.str _, H, I.tok _, ⟨_, rfl⟩, q⟩
  | int i =>
    obtain ⟨t, rfl⟩ := ru
    have hz : i.natAbs.log2 < 1920 := by simpa [PyData.showable] using hz
    exact P.repr_of_int hz ⟨.str _, H, I.tok _, ⟨_, rfl⟩, q⟩
  | str x =>
    obtain ⟨t, rfl⟩ := ru
    exact P.repr_of_str ⟨.str _, H, I.tok _, ⟨_, rfl⟩, q⟩ fits
  | lst e n t => cases ru; exact tail _ rfl
  | tup e t => cases ru; exact tail _ rfl
  | dct e t => cases ru; exact tail _ rfl
end
end G

namespace G
open PySem PySem.Spec PyProof.Rows L2 SeqAt

/-! ### v == 0 of any data, dicts too -/
theorem dict_no_int (a : Addr) (xs : Array DictEntry) (k : Nat) (md : Option Addr) (zs : Array (Option Value)) (i : Int) (t : Tok) :
    Meets (Builtin.«dict.__eq__» ⟨[.ref a, .int i t], []⟩) (fun _ T st => st.heap.get? a = some { cls := .type "dict", dict := md, data := .dict xs k, slots := zs } ∧ T (.ok (.ret .notImplemented)) st) := by
  refine .of_wp fun prog w A T st z => ?_
  obtain ⟨z1, z2⟩ := z
  obtain ⟨hp, gn, dr, tk, os⟩ := st
  have no := PySem.F.sub_int_dict
  wp_walk using wpAny_loadPart' z1
  exact ⟨_, rfl, z2⟩
theorem int_no_dict (a : Addr) (xs : Array DictEntry) (k : Nat) (md : Option Addr) (zs : Array (Option Value)) (i : Int) (t : Tok) :
    Meets (Builtin.«int.__eq__» ⟨[.int i t, .ref a], []⟩) (fun _ T st => st.heap.get? a = some { cls := .type "dict", dict := md, data := .dict xs k, slots := zs } ∧ T (.ok (.ret .notImplemented)) st) := by
  refine .of_wp fun prog w A T st z => ?_
  obtain ⟨z1, z2⟩ := z
  obtain ⟨hp, gn, dr, tk, os⟩ := st
  wp_walk using wpAny_loadPart' z1, wpAny_load z1
  exact ⟨_, rfl, z2⟩
theorem rc_dict_int {A : Around} {st : Shared} {a : Addr} {o : Obj} {xs : Array DictEntry} {k : Nat} (i : Int) (t : Tok) (g : st.heap.get? a = some o) (c : o.cls = .type "dict") (dd : o.data = .dict xs k) (room : A.units < cLine) : RcAt A st (.ref a) (.int i t) false := fun prog w E Q q => by
  obtain ⟨oc, md, da, zs⟩ := o
  simp only at c dd
  subst c dd
  refine rc_eq_decline_or (k := false) ⟨_, g, rfl⟩ (typeIs_int st i t) (by decide) PySem.F.sub_int_dict PySem.F.slot_dict_eq PySem.F.slot_int_eq_refl ?_ ?_ ?_ (.inr room) q
  · exact fun T qT => call_meets PySem.F.slot_dict_eq ⟨_, g, rfl⟩ PySem.F.entry_dict_eq (PySem.F.args_dict_eq_2 _ _) (dict_no_int a xs k md zs i t) ⟨g, qT⟩
  · exact fun T qT => call_meets PySem.F.slot_int_eq_refl (typeIs_int st i t) PySem.F.entry_int_eq (PySem.F.args_int_eq_2 _ _) (int_no_dict a xs k md zs i t) ⟨g, qT⟩
  · exact fun T qT => wpAny_of_eq (rfl : isSame (.ref a) (.int i t) = pure false) qT
/-- whether data equal 0 -/
def zeroD : PyData → Bool
  | .int i => i == 0
  | .bool b => (if b then (1 : Int) else 0) == 0
  | _ => false
def rEq0 : R2 := fun x y H Q => ∃ d, y = .int 0 ∧ Da H x d ∧ Q (.bl (zeroD d)) H
theorem op_eq0 {X : Cx} (room : X.A.units + 64 < cLine) : OpR X (compareOp .Eq) rEq0 := by
  intro pins s σ H x y v u Q I rx ry h
  obtain ⟨d, rfl, hd, q⟩ := h
  obtain ⟨tk, rfl⟩ := (show ∃ tk, u = Value.int 0 tk from ry)
  have fin : ∀ b, zeroD d = b → EP X pins σ Q (.bool b) s := fun b e => ⟨.bl b, H, I, rfl, by rw [← e]; exact q⟩
  have room0 : X.A.units < cLine := by omega
  cases hd with
  | non => cases rx; exact RcAt.none_int 0 tk _ _ _ _ (fin _ rfl)
  | bl b => cases rx; exact RcAt.bool_int b 0 tk _ _ _ _ (fin _ rfl)
  | int i => obtain ⟨t, rfl⟩ := rx; exact RcAt.int_int i t 0 tk _ _ _ _ (fin _ rfl)
  | str x => obtain ⟨t, rfl⟩ := rx; exact RcAt.str_int x t 0 tk _ _ _ _ (fin _ rfl)
  | lst e n t =>
    cases rx
    obtain ⟨_, its, m, rv, ho⟩ := I.hok _ _ e
    exact RcAt.list_int 0 tk ⟨_, ho, rfl, _, rfl⟩ room0 _ _ _ _ (fin _ rfl)
  | tup e t =>
    cases rx
    obtain ⟨_, its, rv, ho⟩ := I.hok _ _ e
    exact RcAt.tuple_int 0 tk ho room0 _ _ _ _ (fin _ rfl)
  | dct e t =>
    cases rx
    obtain ⟨_, hs, vs, rel, o, es, ep, ho, hx, hd, _⟩ := I.hok _ _ e
    exact rc_dict_int 0 tk ho hx.1 hd room0 _ _ _ _ (fin _ rfl)
end G

namespace G
open PySem PySem.Spec PyProof.Rows L2 LamX

/-! ### the law's own call, where defs of the text make lambdas; entered while nothing shows itself -/
/-- an empty table of code objects -/
abbrev bareTab : Obj := { cls := .none, data := .fields #[] }
/-- the abstract heap at the entry: the script, if the text does not know it, and the tables -/
def atEntry (K : PySem.W.Frag) (a : Addr) (vs : List Value) (ns : List Int) (ts : List Addr) : Hp := fun b =>
  if b ∈ ts then some (.tbl #[]) else if b = a ∧ K.lookup a = none then some (.frz { cls := .type "list", data := .seq vs.toArray } (.lst (ns.map V.int))) else none
section
variable {K : PySem.W.Frag} {a b : Addr} {vs : List Value} {ns : List Int} {ts : List Addr}
theorem ae_tab (h : b ∈ ts) : atEntry K a vs ns ts b = some (.tbl #[]) := if_pos h
theorem ae_scr (h : a ∉ ts) (k : K.lookup a = none) : atEntry K a vs ns ts a = some (.frz { cls := .type "list", data := .seq vs.toArray } (.lst (ns.map V.int))) := (if_neg h).trans (if_pos ⟨rfl, k⟩)
theorem ae_off (h : b ∉ ts) (n : ¬ (b = a ∧ K.lookup a = none)) : atEntry K a vs ns ts b = none := (if_neg h).trans (if_neg n)
theorem ae_or : (b ∈ ts ∧ atEntry K a vs ns ts b = some (.tbl #[])) ∨ (b ∉ ts ∧ b = a ∧ K.lookup a = none ∧ atEntry K a vs ns ts b = some (.frz { cls := .type "list", data := .seq vs.toArray } (.lst (ns.map V.int)))) ∨ (b ∉ ts ∧ atEntry K a vs ns ts b = none) := by
  by_cases h1 : b ∈ ts
  · exact .inl ⟨h1, ae_tab h1⟩
  · by_cases h2 : b = a ∧ K.lookup a = none
    · exact .inr (.inl ⟨h1, h2.1, h2.2, (if_neg h1).trans (if_pos h2)⟩)
    · exact .inr (.inr ⟨h1, ae_off h1 h2⟩)
end
theorem lawCallT {P : Program} {w : World} {K : PySem.W.Frag} {mg mb : Str → Option Value} {k : Nat} {fa a : Addr} {cs : List (Addr × Addr)} {fd : FuncData} {x : Str} {sp : Sp} {s₁ : Shared} {vs : List Value} {ns : List Int}
    (KX : K.In s₁.heap) (glob : s₁.heap.Ns mainGlobals mg) (bltn : s₁.heap.Ns builtinsNs mb) (boot : ∀ x : Str, x ≠ "__name__" → mb x = bootBuiltins x) (lim : s₁.heap.NoLimit) (gens : s₁.gens = #[])
    (mods : ∃ (bm : Addr) (ob : Obj), mg "__builtins__" = some (.ref bm) ∧ bm ≠ builtinsNs ∧ s₁.heap.get? bm = some ob ∧ ob.cls = .type "module" ∧ ob.dict = some builtinsNs ∧ ob.data = .plain)
    (bare : ∀ p ∈ cs, s₁.heap.get? p.2 = some bareTab) (noK : ∀ p ∈ cs, K.lookup p.2 = none) (code : ∀ p ∈ cs, PySem.W.CodeHd s₁.heap p.1 p.2)
    (obj : s₁.heap.get? a = some { cls := .type "list", data := .seq vs.toArray }) (nums : IntsAre vs ns) (short : ns.length ≤ sizeLine) (room : Room k callerA)
    (F : ∀ base : Heap, K.In base → base.Ns mainGlobals mg → (∀ p ∈ cs, TabB base mg p.1 p.2) → Fn P w K mg base CX0 k fa fd [x] sp) (bind : ∀ (s : Shared) (u : Value), BindsTo s fd ⟨[u], []⟩ [(x, u)])
    (told : ∀ H : Hp, (∀ p ∈ cs, H p.2 = some (.tbl #[])) → SqL K H a (ns.map V.int) → sp [.ref a] H (fun v _ => v = .bl true) fun _ _ _ => False) :
    codeAny (model P w) callerA (.call (.ref fa) ⟨[.ref a], []⟩) (fun r s' => r = .ok (.ret (.bool true)) ∧ OldK s₁.heap s'.heap ∧ s'.os = s₁.os ∧ AllBare s'.gens) s₁ := by
  have rv := vals_ints nums
  have lenV := nums.length
  let ts : List Addr := cs.map (·.2)
  let H : Hp := atEntry K a vs ns ts
  have inT : ∀ p ∈ cs, p.2 ∈ ts := fun p hp => List.mem_map.mpr ⟨p, hp, rfl⟩
  have tabT : ∀ b ∈ ts, s₁.heap.get? b = some bareTab := fun b hb => by
    obtain ⟨p, hp, rfl⟩ := List.mem_map.mp hb
    exact bare p hp
  have aT : a ∉ ts := fun z => by
    have q := (tabT a z).symm.trans obj
    cases q
  have offK : ∀ {b : Addr} {o : Obj}, K.lookup b = some o → H b = none := fun {b o} e => by
    rcases ae_or (K := K) (a := a) (b := b) (vs := vs) (ns := ns) (ts := ts) with ⟨h, _⟩ | ⟨_, rfl, n, _⟩ | ⟨_, z⟩
    · obtain ⟨p, hp, rfl⟩ := List.mem_map.mp h
      rw [noK p hp] at e
      cases e
    · rw [n] at e
      cases e
    · exact z
  -- what is neither a list nor an empty table is not hidden
  have off : ∀ {b : Addr} {o : Obj}, s₁.heap.get? b = some o → (∀ its n, o.data ≠ .seq its n) → o.data ≠ .fields #[] → H b = none := fun {b o} e h1 h2 => by
    rcases ae_or (K := K) (a := a) (b := b) (vs := vs) (ns := ns) (ts := ts) with ⟨h, _⟩ | ⟨_, rfl, _, _⟩ | ⟨_, z⟩
    · obtain rfl := Option.some.inj (e.symm.trans (tabT b h))
      exact absurd rfl h2
    · obtain rfl := Option.some.inj (e.symm.trans obj)
      exact absurd rfl (h1 _ _)
    · exact z
  have offD : ∀ {b : Addr} {o : Obj} {es : Array DictEntry} {ep : Nat}, s₁.heap.get? b = some o → o.data = .dict es ep → H b = none := fun e d => off e (fun _ _ z => by rw [d] at z; cases z) fun z => by rw [d] at z; cases z
  have hok : HOk P w H s₁.heap := fun b u z => by
    rcases ae_or (K := K) (a := a) (b := b) (vs := vs) (ns := ns) (ts := ts) with ⟨h, e⟩ | ⟨_, rfl, _, e⟩ | ⟨_, e⟩
    · obtain rfl := Option.some.inj (e.symm.trans z)
      exact tabT b h
    · obtain rfl := Option.some.inj (e.symm.trans z)
      exact ⟨obj, by rw [List.length_map]; exact short, vs, _, rv, obj⟩
    · exact absurd (e.symm.trans z) (by simp)
  have seq : SqL K H a (ns.map V.int) := by
    cases hk : K.lookup a with
    | none => exact .inl (.inr ⟨_, ae_scr aT hk⟩)
    | some o =>
      obtain rfl := Option.some.inj ((KX a o hk).symm.trans obj)
      exact .inr ⟨_, vs.toArray, _, hk, rfl, rfl, rfl, by rw [List.size_toArray, lenV]; exact short, by simpa using rv⟩
  have ns0 : ∀ {b : Addr} {m : Str → Option Value}, s₁.heap.Ns b m → (hidT s₁.heap H).Ns b m := by
    rintro b m ⟨o, es, ep, e, d, r⟩
    exact ⟨o, es, ep, hidT_get e (offD e d), d, r⟩
  have in0 : K.In (hidT s₁.heap H) := fun b o e => hidT_get (KX b o e) (offK e)
  have M : Mod K mg (hidT s₁.heap H) := by
    obtain ⟨mc, l1, l2⟩ := lim
    exact ⟨in0, ns0 glob, ⟨mb, ns0 bltn, boot⟩, ⟨mc, ns0 l1, l2⟩⟩
  obtain ⟨og, eg, pg, gg, dg, _⟩ := id glob
  have TB : ∀ p ∈ cs, TabB (hidT s₁.heap H) mg p.1 p.2 := fun p hp => by
    have hp0 := bare p hp
    refine ⟨?cd, ?bm, fun z => ?_⟩
    case cd =>
      obtain ⟨o, us, f1, f2, f3, f4, f5, f6, f7, e, c1, c2, c3, rest⟩ := code p hp
      refine ⟨o, us, f1, f2, f3, f4, f5, f6, f7, hidT_get e (off e (fun _ _ z => ?_) fun z => ?_), c1, c2, c3, rest⟩
      · rw [c2] at z
        cases z
      · rw [c2] at z
        obtain rfl := Data.fields.inj z
        simp at c3
    case bm =>
      obtain ⟨bm, ob, m1, m2, m3, m4, m5, m6⟩ := mods
      refine ⟨bm, ob, m1, m2, fun z => ?_, fun z => ?_, hidT_get m3 (off m3 (fun _ _ z => by rw [m6] at z; cases z) fun z => by rw [m6] at z; cases z), m4, m5, m6⟩
      · rw [z, gg] at m3
        obtain rfl := Option.some.inj m3
        rw [dg] at m6
        cases m6
      · rw [z, hp0] at m3
        obtain rfl := Option.some.inj m3
        cases m6
    · rw [z, hp0] at gg
      obtain rfl := Option.some.inj gg
      cases dg
  have nof : ∀ b : Addr, ¬ b ∈ frs ([] : List Env) := fun b z => nomatch (show b ∈ ([] : List Addr) from z)
  have e0 : Env0 P w K mg (hidT s₁.heap H) callerA [] s₁ H := ⟨rfl, M, fun b o e => of_hidT e, Nat.le_of_eq (hidT_size _ _), trivial, fun b hb => absurd hb (nof b), hok, .of_eq gens⟩
  refine codeAny_mono ((F _ in0 (ns0 glob) TB).run callerA [] s₁ H ⟨[.ref a], []⟩ [.ref a] [.ref a] _ _ rfl room e0 (bind s₁ (.ref a)) (.cons rfl .nil) (told H (fun p hp => ae_tab (inT p hp)) seq)) ?_
  intro r s' h
  match r, h with
  | .error e, h => exact h.elim
  | .ok .next, h => exact h.elim
  | .ok .brk, h => exact h.elim
  | .ok .cont, h => exact h.elim
  | .ok (.ret u), h =>
    obtain ⟨v, H', os, allb, un, hok', ru, rfl⟩ := h
    obtain rfl : u = Value.bool true := ru
    -- an object that is no table is as it was
    have kept : ∀ b o, b ∉ ts → s₁.heap.get? b = some o → s'.heap.get? b = some o := fun b o nb e => by
      rcases ae_or (K := K) (a := a) (b := b) (vs := vs) (ns := ns) (ts := ts) with ⟨h, _⟩ | ⟨_, rfl, _, z⟩ | ⟨_, z⟩
      · exact absurd h nb
      · have s1 := (hok b _ z).1
        have s2 := (hok' b _ (un.frzs b _ _ z)).1
        exact s2.trans (s1.symm.trans e)
      · exact un.keep b o e z (nof b) (fun z => nomatch z)
    have more : ∀ b ∈ ts, ∃ ext : Array Value, s'.heap.get? b = some { cls := .none, data := .fields ext } := fun b hb => by
      obtain ⟨ext, z⟩ := un.tbls b #[] (ae_tab hb)
      exact ⟨_, hok' b _ z⟩
    refine ⟨rfl, ⟨fun b o e => ?_, fun b o e => ?_⟩, os, allb⟩
    · by_cases hb : b ∈ ts
      · obtain ⟨p, hp, rfl⟩ := List.mem_map.mp hb
        obtain ⟨ext, z⟩ := more _ hb
        obtain rfl := Option.some.inj ((bare p hp).symm.trans e)
        refine .inr (.inl ⟨((code p hp).tab (bare p hp)).isCodeTable, rfl, #[], ext, rfl, ?_⟩)
        rw [Array.empty_append]
        exact z
      · exact .inl (kept b o hb e)
    · by_cases hb : b ∈ ts
      · obtain ⟨ext, z⟩ := more b hb
        exact ⟨_, z⟩
      · exact ⟨o, kept b o hb e⟩
/-- what is to be shown of the law at the head's heap -/
def LawT (P : Program) (w : World) (K : PySem.W.Frag) (k n : Nat) (x : Str) (mg : Str → Option Value) (fa : Addr) (h : Heap) : Prop :=
  ∃ (fd : FuncData) (cs : List (Addr × Addr)) (sp : Sp), (∀ p ∈ cs, h.get? p.2 = some bareTab ∧ K.lookup p.2 = none ∧ PySem.W.CodeHd h p.1 p.2) ∧ (∀ (s : Shared) (u : Value), BindsTo s fd ⟨[u], []⟩ [(x, u)]) ∧
    (∀ (H : Hp) (a : Addr) (ns : List Int), ns.length ≤ n → (∀ p ∈ cs, H p.2 = some (.tbl #[])) → SqL K H a (ns.map V.int) → sp [.ref a] H (fun v _ => v = .bl true) fun _ _ _ => False) ∧
    ∀ base : Heap, K.In base → base.Ns mainGlobals mg → (∀ p ∈ cs, TabB base mg p.1 p.2) → Fn P w K mg base CX0 k fa fd [x] sp
/-- the tables of a text's defs are empty at the law's entry -/
def Bare (mg : Str → Option Value) (h : Heap) (nm : Str) : Prop := ∃ f o fd c T, mg nm = some (.ref f) ∧ h.get? f = some o ∧ o.data = .func fd ∧ fd.code = .ref c ∧ PySem.W.CodeHd h c T ∧ h.get? T = some bareTab
theorem walkOfT {l : PySem.W.OpenLaw} {n k : Nat} {q : Program} {loose : List Str} {XP : (Str → Option Value) → Heap → Prop} {YP : World → Heap → Prop} {d : DefRec} {K : Params → PySem.W.Frag} {x : Str} {names : List Str}
    (hn : l.most = some n) (hn2 : n ≤ sizeLine) (hdf : d.params.defaults = []) (hr : Room k callerA) (hrec : (names.all fun nm => (recsOf q).any fun e => e.name == nm) = true) (hY : ∀ (w : World) (h : Heap), YP w h → (K w.params).In h)
    (F : ∀ (w : World) (mg : Str → Option Value) (fa : Addr) (h : Heap), (K w.params).In h → h.Ns mainGlobals mg → mg d.name = some (.ref fa) → (∀ nm ∈ names, Bare mg h nm) → LawT l.prog w (K w.params) k n x mg fa h) :
    PySem.W.WalkO q loose XP YP l.row.toRowW d [] (fun f vs => PySem.call f vs) := by
  apply Att.attach_call hn hdf
  intro w s₀ s₁ mg mb fa o pm cd doc a vs ns G Y ho hd hcd hmg hobj hints hlen hg
  have KX := hY w _ Y
  have tabs : ∀ nm ∈ names, Bare mg s₁.heap nm := fun nm hnm => by
    obtain ⟨r, hm, e⟩ := List.any_eq_true.mp (List.all_eq_true.mp hrec nm hnm)
    obtain ⟨f, o', fd', c, T, t1, t2, t3, t4, t5, t6⟩ := G.T.tab r hm
    rw [beq_iff_eq.mp e] at t1
    exact ⟨f, o', fd', c, T, t1, t2, t3, t4, PySem.W.CodeHd.of t5 t6, t6.2⟩
  obtain ⟨fd, cs, sp, facts, hb, told, hF⟩ := F w mg fa _ KX G.T.g hmg tabs
  exact lawCallT KX G.T.g G.T.b G.T.builtins G.T.nolimit hg G.T.bmain (fun p hp => (facts p hp).1) (fun p hp => (facts p hp).2.1) (fun p hp => (facts p hp).2.2) hobj hints (Nat.le_trans hlen hn2) hr hF hb fun H hH hS => told H a ns hlen hH hS
end G

namespace G
open PySem PySem.Spec PyProof.Rows L2 ClX

/-! ### a static method, called through its class -/
structure SMet (K : PySem.W.Frag) (C : Addr) (m : Str) (g : Addr) : Prop where
  rd : ∃ mc p rest, CRead K C mc ∧ PySem.W.findCls K (.ref C) mc m = some (.get (.builtin "staticmethod.__get__") (.ref p) .none (.ref C)) ∧ PySem.W.recIn K p "staticmethod" = some (.ref g :: rest)
  kp : PySem.W.keepIn K (.ref g) = true
/-- C.m(e, ..) -/
def tSMeth (C : Addr) (sp : Sp) (E : XK) (ta : TE) (t : TA) : TE := fun σ H Q => ta σ H fun x H1 => x = .ref C ∧ t σ H1 fun vs H2 => sp vs H2 Q E
section
variable {X : Cx} {CX : CXT} {k : Nat} {C g : Addr} {sp : Sp} {E : XK} {o e : Expr} {es : List Expr} {m : Str} {pos apos : Pos} {ta : TE} {t : TA} {pl : Sem Bool}
theorem pe_smeth (he : PE X o ta) (c : SMet X.K C m g) (F : FnR X.prog X.w X.K X.mg X.base CX k g sp) (hr : Room k X.A) (hx : Passes CX X E) (ha : PA X (e :: es) t)
    (hst : starEach (e :: es) X.env = (false, eval e X.env) :: starEach es X.env := by rfl) (hpl : (backTo pos (starEach es X.env)).any (·.1) = false := by rfl)
    (ht : eval (.Call (.Attribute o m apos) (e :: es) [] pos) X.env = (do
      let ov ← eval o X.env
      standAt apos.atName
      let (f, first) ← holding [ov] (getMethod ov m pl)
      callWith pos f first (backTo pos (starEach (e :: es) X.env)) (backToKw pos (keywordEach [] X.env))) := by rfl) :
    PE X (.Call (.Attribute o m apos) (e :: es) [] pos) (tSMeth C sp E ta t) := by
  constructor
  intro pins s σ H Q I h
  apply PySem.W.methodCall_KW (pl := pl) _ ht
  apply thn (he.run pins s σ H _ I h)
  rintro u s1 ⟨x, H1, I1, rx, rfl, q⟩
  cases (show u = Value.ref C from rx)
  obtain ⟨mc, p, rest, r, e1, e2⟩ := c.rd
  apply PySem.W.method_cls I1.kIn r.ga
  apply PySem.W.cls_bind I1.kIn r.rd e1
  apply wpAny_call
  apply PySem.W.sm_get (s := { s1 with toks := s1.toks + 1 }) I1.kIn e2
  apply PySem.W.handed_on rfl
  have I2 := I1.tok (s1.toks + 1)
  apply PySem.W.callWith_K (h₀ := X.base) (first := []) I2.ok.mod.kin c.kp _ hst hpl
  apply thn (ha.run pos pins _ σ H1 _ I2 q)
  rintro us s3 ⟨vs, H2, I3, rv, q2⟩
  exact ⟨I3.kIn, wpAny_call (run_fnR F hr hx I3 rv q2)⟩
end
end G

namespace G
open PySem SX NumText

/-! ### texts of numbers, by their signs -/
def dig (c : Nat) : Bool := decide (48 ≤ c) && decide (c ≤ 57)
/-- figures alone, one at least -/
def figs (l : List Nat) : Bool := !l.isEmpty && l.all dig
theorem figs_of {l : List Nat} (h : figs l = true) : l ≠ [] ∧ AllDigits l := by
  obtain ⟨h1, h2⟩ := Bool.and_eq_true_iff.mp h
  refine ⟨(fun z => by rw [z] at h1; exact absurd h1 (by simp)), fun c hc => ?_⟩
  have z := List.all_eq_true.mp h2 c hc
  obtain ⟨z1, z2⟩ := Bool.and_eq_true_iff.mp z
  exact ⟨of_decide_eq_true z1, of_decide_eq_true z2⟩
theorem figs_mk {l : List Nat} (h1 : l ≠ []) (h2 : AllDigits l) : figs l = true := by
  refine Bool.and_eq_true_iff.mpr ⟨?_, List.all_eq_true.mpr fun c hc => ?_⟩
  · cases l
    · exact absurd rfl h1
    · rfl
  · obtain ⟨a, b⟩ := h2 c hc
    exact Bool.and_eq_true_iff.mpr ⟨decide_eq_true a, decide_eq_true b⟩
theorem ascii_S (l : List Nat) : Txt.isascii (S l) = l.all (· < 128) := by
  unfold Txt.isascii
  simp [S]
theorem dig_uni {c : Nat} (h : c < 128) : Unicode.isDigit c = dig c := by
  have e := PySem.W.os_isdigit h
  have e2 : Txt.isdigit ⟨#[c]⟩ = Unicode.isDigit c := by
    unfold Txt.isdigit
    simp [Str.length]
  rw [← e2, e]
  rfl
theorem isdigit_S {l : List Nat} (h : l.all (· < 128) = true) : Txt.isdigit (S l) = figs l := by
  unfold Txt.isdigit figs
  have e1 : decide ((S l).length > 0) = !l.isEmpty := by
    rw [S_len]
    cases l <;> simp
  have e2 : (S l).cps.all Unicode.isDigit = l.all dig := by
    rw [← Array.all_toList]
    show l.all Unicode.isDigit = l.all dig
    have : ∀ m : List Nat, m.all (· < 128) = true → m.all Unicode.isDigit = m.all dig := by
      intro m
      induction m with
      | nil => intro _; rfl
      | cons c r ih =>
        intro hm
        obtain ⟨a, b⟩ := Bool.and_eq_true_iff.mp (show (decide (c < 128) && r.all (· < 128)) = true from hm)
        rw [List.all_cons, List.all_cons, ih b, dig_uni (of_decide_eq_true a)]
    exact this l h
  rw [e1, e2]
theorem figs_ascii {l : List Nat} (h : figs l = true) : l.all (· < 128) = true := List.all_eq_true.mpr fun c hc => by
  have := (figs_of h).2 c hc
  exact decide_eq_true (by omega)
theorem sub_dash (l : List Nat) : Builtin.Str.subAt (S l) (S [45]) 0 = decide (l.head? = some 45) := by
  rw [PySem.StrLaws.subAt_eq]
  show ((l.drop 0).take 1 == [45]) = _
  cases l with
  | nil => rfl
  | cons c r =>
    rw [List.drop_zero]
    show ([c] == [45]) = decide (some c = some 45)
    by_cases h : c = 45
    · rw [h]; rfl
    · have h1 : ([c] == [45]) = false := by simpa using h
      have h2 : decide (some c = some 45) = false := by simpa using h
      rw [h1, h2]
theorem starts_dash (l : List Nat) : Txt.startswith (S l) (S [45]) = decide (l.head? = some 45) := by
  unfold Txt.startswith
  rw [sub_dash, S_len, S_len]
  cases l with
  | nil => rfl
  | cons c r =>
    have : decide (0 + ([45] : List Nat).length ≤ (c :: r).length) = true := decide_eq_true (by simp)
    rw [this, Bool.true_and]
/-- without a dash ahead -/
def bare (l : List Nat) : List Nat := if l.head? = some 45 then l.tail else l
theorem strSub_S (l : List Nat) (i j : Nat) : Builtin.Str.strSub (S l) i j = S ((l.drop i).take (j - i)) := by
  refine TL.ext_tl ?_
  show ((S l).cps.extract i j).toList = (l.drop i).take (j - i)
  rw [Array.toList_extract]
theorem bare_S (l : List Nat) : Txt.removeprefix (S l) (S [45]) = S (bare l) := by
  unfold Txt.removeprefix bare
  rw [sub_dash]
  by_cases h : l.head? = some 45
  · rw [decide_eq_true h, if_pos rfl, if_pos h]
    cases l with
    | nil => cases h
    | cons c r =>
      show Txt.affix (S (c :: r)) (some ((S [45]).length, (S (c :: r)).length)) = S r
      unfold Txt.affix
      rw [S_len, S_len]
      have : ¬ ((c :: r).length - ([45] : List Nat).length == (c :: r).length) = true := by simp
      show (if ((c :: r).length - ([45] : List Nat).length == (c :: r).length) = true then S (c :: r) else Builtin.Str.strSub (S (c :: r)) ([45] : List Nat).length (c :: r).length) = S r
      rw [if_neg this, strSub_S]
      simp
  · rw [decide_eq_false h, if_neg h]
    rfl
/-- filled up with noughts to so many -/
def filled (k : Nat) (l : List Nat) : List Nat := List.replicate (k - l.length) 48 ++ l
theorem filled_len {k : Nat} {l : List Nat} (h : l.length ≤ k) : (filled k l).length = k := by
  unfold filled
  rw [List.length_append, List.length_replicate]
  omega
theorem zfill_S {l : List Nat} {k : Nat} (hf : figs l = true) (h : l.length ≤ k) : Txt.zfill (S l) (k : Int) = S (filled k l) := by
  unfold Txt.zfill
  rw [S_len]
  obtain ⟨ne, ad⟩ := figs_of hf
  by_cases e : (k : Int) ≤ (l.length : Int)
  · rw [if_pos e]
    unfold filled
    rw [show k - l.length = 0 by omega]
    rfl
  · rw [if_neg e]
    unfold zfilled filled
    have e2 : ((k : Int).toNat - l.length) = k - l.length := by omega
    rw [e2]
    cases l with
    | nil => exact absurd rfl ne
    | cons c r =>
      obtain ⟨c1, c2⟩ := ad.head
      have z : (S (c :: r)).cps[0]? = some c := rfl
      rw [z]
      have fin : Builtin.Str.padded (S (c :: r)) (k - (c :: r).length) 0 48 = S (List.replicate (k - (c :: r).length) 48 ++ c :: r) := by
        refine TL.ext_tl ?_
        show (Array.replicate (k - (c :: r).length) 48 ++ (S (c :: r)).cps ++ Array.replicate 0 48).toList = _
        simp [S]
      split
      · rename_i h43
        obtain rfl := Option.some.inj h43
        omega
      · rename_i h45
        obtain rfl := Option.some.inj h45
        omega
      · exact fin
theorem val_zeros : ∀ (k : Nat) (l : List Nat), digitsVal (List.replicate k 48 ++ l) = digitsVal l
  | 0, l => rfl
  | k + 1, l => by
    show List.foldl _ 0 _ = _
    rw [List.replicate_succ, List.cons_append, List.foldl_cons]
    exact val_zeros k l
theorem filled_val (k : Nat) (l : List Nat) : digitsVal (filled k l) = digitsVal l := val_zeros _ _
theorem filled_digits {k : Nat} {l : List Nat} (h : AllDigits l) : AllDigits (filled k l) := fun c hc => by
  rcases List.mem_append.mp hc with z | z
  · rw [(List.mem_replicate.mp z).2]
    exact ⟨by decide, by decide⟩
  · exact h c z
theorem int_filled {k : Nat} {l : List Nat} (hf : figs l = true) (hk : l.length ≤ k) (h1 : k ≤ 640) : intText? (S (filled k l)) = some ((digitsVal l : Nat) : Int) := by
  obtain ⟨ne, ad⟩ := figs_of hf
  have e := intText_digits (x := S (filled k l)) (filled_digits ad) (fun z => by
    have : (filled k l).length = 0 := by rw [show filled k l = [] from z]; rfl
    rw [filled_len hk] at this
    cases l
    · exact ne rfl
    · simp at hk; omega) (by rw [S_len, filled_len hk]; omega)
  rw [e]
  show some ((digitsVal (filled k l) : Nat) : Int) = _
  rw [filled_val]
theorem int_figs {l : List Nat} (hf : figs l = true) (hk : l.length ≤ 640) : intText? (S l) = some ((digitsVal l : Nat) : Int) := by
  obtain ⟨ne, ad⟩ := figs_of hf
  exact intText_digits (x := S l) ad ne (by rw [S_len]; omega)
theorem val_lt : ∀ (l : List Nat) (a : Nat), AllDigits l → l.foldl (fun acc c => acc * 10 + (c - 48)) a < (a + 1) * 10 ^ l.length
  | [], a, _ => by simp
  | c :: r, a, h => by
    obtain ⟨c1, c2⟩ := h.head
    have z := val_lt r (a * 10 + (c - 48)) h.tail
    rw [List.foldl_cons]
    refine Nat.lt_of_lt_of_le z ?_
    rw [List.length_cons, Nat.pow_succ, Nat.mul_comm (10 ^ r.length) 10, ← Nat.mul_assoc]
    exact Nat.mul_le_mul_right _ (by omega)
theorem digitsVal_lt {l : List Nat} (h : AllDigits l) : digitsVal l < 10 ^ l.length := by
  have z := val_lt l 0 h
  rw [Nat.zero_add, Nat.one_mul] at z
  exact z
/-! ### the text of an integer, of a fraction -/
theorem S_cat_of (t : String) : Str.ofString ("-" ++ t) = S [45] ++ Str.ofString t := by
  refine TL.ext_tl ?_
  rw [TL.tl_append, PySem.Str.ofString_eq_toList, PySem.Str.ofString_eq_toList]
  show (List.map Char.toNat ("-" ++ t).toList) = [45] ++ List.map Char.toNat t.toList
  rw [String.toList_append, List.map_append]
  rfl
def intL (i : Int) : List Nat := if i < 0 then 45 :: TL.numL i.natAbs else TL.numL i.natAbs
theorem int_L (i : Int) : Str.ofString (toString i) = S (intL i) := by
  unfold intL
  by_cases h : i < 0
  · rw [if_pos h]
    obtain ⟨n, rfl⟩ : ∃ n : Nat, i = Int.negSucc n := ⟨(-i - 1).toNat, by omega⟩
    have e : toString (Int.negSucc n) = "-" ++ toString (n + 1) := rfl
    rw [e]
    have e2 : Str.ofString ("-" ++ toString (n + 1)) = S [45] ++ Str.ofString (toString (((n + 1 : Nat)) : Int)) := by
      have t : toString (((n + 1 : Nat)) : Int) = toString (n + 1) := rfl
      rw [t, S_cat_of]
    rw [e2, num_S, S_cat]
    rfl
  · rw [if_neg h]
    obtain ⟨n, rfl⟩ := Int.eq_ofNat_of_zero_le (show 0 ≤ i by omega)
    exact num_S n
/-- n / u -/
def ratL (n u : Int) : List Nat := if u = 1 then intL n else intL n ++ 47 :: intL u
theorem numL_figs (n : Nat) : figs (TL.numL n) = true := figs_mk (TL.numL_ne n) (TL.numL_digits n)
theorem bare_int (n : Int) : bare (intL n) = TL.numL n.natAbs := by
  unfold bare intL
  by_cases h : n < 0
  · rw [if_pos h]
    rfl
  · rw [if_neg h, if_neg]
    intro z
    have hne := TL.numL_ne n.natAbs
    cases e : TL.numL n.natAbs with
    | nil => exact hne e
    | cons c r =>
      rw [e] at z
      obtain rfl := Option.some.inj (show some c = some 45 from z)
      have := TL.numL_digits n.natAbs 45 (by rw [e]; exact List.mem_cons_self ..)
      omega
theorem head_int (n : Int) : (decide ((intL n).head? = some 45) : Bool) = decide (n < 0) := by
  unfold intL
  by_cases h : n < 0
  · rw [if_pos h, decide_eq_true h]
    rfl
  · rw [if_neg h, decide_eq_false h]
    refine decide_eq_false fun z => ?_
    cases e : TL.numL n.natAbs with
    | nil => exact TL.numL_ne _ e
    | cons c r =>
      rw [e] at z
      obtain rfl := Option.some.inj (show some c = some 45 from z)
      have := TL.numL_digits n.natAbs 45 (by rw [e]; exact List.mem_cons_self ..)
      omega
theorem intL_mem {n : Int} {c : Nat} (h : c ∈ intL n) : c = 45 ∨ (48 ≤ c ∧ c ≤ 57) := by
  unfold intL at h
  split at h
  · rcases List.mem_cons.mp h with z | z
    · exact .inl z
    · exact .inr (TL.numL_digits _ c z)
  · exact .inr (TL.numL_digits _ c h)
theorem int_free {n : Int} {c : Nat} (h : c ≠ 45) (h2 : c < 48 ∨ 57 < c) : c ∉ intL n := fun z => by
  rcases intL_mem z with e | ⟨a, b⟩
  · exact h e
  · omega
/-- no nought ahead of another figure -/
theorem num_lead : ∀ (n : Nat), (TL.numL n).head? = some 48 → n = 0 := fun n => by
  induction n using Nat.strongRecOn with
  | ind n ih =>
    intro h
    by_cases hn : n < 10
    · rw [TL.numL_lt hn] at h
      have := Option.some.inj h
      omega
    · rw [TL.numL_step (by omega)] at h
      have hne := TL.numL_ne (n / 10)
      cases e : TL.numL (n / 10) with
      | nil => exact absurd e hne
      | cons c r =>
        rw [e, List.cons_append] at h
        have h' : (TL.numL (n / 10)).head? = some 48 := by rw [e]; exact h
        have := ih (n / 10) (by omega) h'
        omega
end G

namespace G
open PySem SX NumText

/-! ### texts of fractions: how they come apart -/
theorem split_at (c : Nat) (l : List Nat) : c ∉ l ∨ ∃ p q, l = p ++ c :: q ∧ c ∉ p := by
  by_cases h : c ∈ l
  · exact .inr (List.eq_append_cons_of_mem h)
  · exact .inl h
theorem part_none {c : Nat} {l : List Nat} (h : c ∉ l) : Txt.partition (S l) (S [c]) = (S l, S [], S []) := partition_none (by simp) (par_head_none h)
theorem part_some {c : Nat} {p q : List Nat} (h : c ∉ p) : Txt.partition (S (p ++ c :: q)) (S [c]) = (S p, S [c], S q) := partition_some (by simp) (par_head (sep := []) q h)
theorem spl_none {c : Nat} {l : List Nat} (h : c ∉ l) : TL.spl [c] 0 [] l = [l] := TL.spl_last1 h
theorem spl_some {c : Nat} {p q : List Nat} (h : c ∉ p) : TL.spl [c] 0 [] (p ++ c :: q) = p :: TL.spl [c] 0 [] q := TL.spl_part1 (S := []) h
theorem spl_ne (c : Nat) (l : List Nat) : TL.spl [c] 0 [] l ≠ [] := by
  rcases split_at c l with h | ⟨p, q, rfl, h⟩
  · rw [spl_none h]; simp
  · rw [spl_some h]; simp
theorem spl_one {c : Nat} {l a : List Nat} (h : TL.spl [c] 0 [] l = [a]) : l = a := by
  rcases split_at c l with n | ⟨p, q, rfl, n⟩
  · rw [spl_none n] at h
    exact (List.cons.inj h).1
  · rw [spl_some n] at h
    exact absurd (List.cons.inj h).2 (spl_ne c q)
theorem spl_two {c : Nat} {l a b : List Nat} (h : TL.spl [c] 0 [] l = [a, b]) : l = a ++ c :: b := by
  rcases split_at c l with n | ⟨p, q, rfl, n⟩
  · rw [spl_none n] at h
    exact absurd (List.cons.inj h).2 (by simp)
  · rw [spl_some n] at h
    obtain ⟨e1, e2⟩ := List.cons.inj h
    rw [e1, spl_one e2]
theorem spl_len (c : Nat) : ∀ (k : Nat) (l : List Nat), l.length ≤ k → (TL.spl [c] 0 [] l).length ≤ l.length + 1 ∧ ∀ w ∈ TL.spl [c] 0 [] l, w.length ≤ l.length := fun k => by
  induction k with
  | zero =>
    intro l hl
    have e : l = [] := List.length_eq_zero_iff.mp (by omega)
    subst e
    rw [TL.spl_nil]
    exact ⟨by simp, fun w hw => by rw [List.mem_singleton.mp hw]; exact Nat.le_refl _⟩
  | succ k ih =>
    intro l hl
    rcases split_at c l with n | ⟨p, q, rfl, n⟩
    · rw [spl_none n]
      exact ⟨by simp, fun w hw => by rw [List.mem_singleton.mp hw]; exact Nat.le_refl _⟩
    · rw [spl_some n]
      simp only [List.length_append, List.length_cons] at hl ⊢
      obtain ⟨h1, h2⟩ := ih q (by omega)
      refine ⟨by omega, fun w hw => ?_⟩
      rcases List.mem_cons.mp hw with e | e
      · rw [e]; omega
      · have := h2 w e; omega
/-- the text is that of a fraction -/
def IsRat (l : List Nat) (n u : Int) : Prop := Red n u ∧ l = ratL n u
theorem intL_pos {u : Int} (h : 0 < u) : intL u = TL.numL u.natAbs := if_neg (by omega)
theorem ratL_one (n : Int) : ratL n 1 = intL n := if_pos rfl
theorem ratL_two {n u : Int} (h : u ≠ 1) : ratL n u = intL n ++ 47 :: intL u := if_neg h
theorem no47 (n : Int) : (47 : Nat) ∉ intL n := int_free (by decide) (.inl (by decide))
theorem no32 (n : Int) : (32 : Nat) ∉ intL n := int_free (by decide) (.inl (by decide))
theorem rat32 (n u : Int) : (32 : Nat) ∉ ratL n u := by
  unfold ratL
  split
  · exact no32 n
  · intro z
    rcases List.mem_append.mp z with e | e
    · exact no32 n e
    · rcases List.mem_cons.mp e with e | e
      · omega
      · exact no32 u e
/-- without a stroke -/
theorem rat_plain {l : List Nat} {n u : Int} (h : IsRat l n u) (f : (47 : Nat) ∉ l) : u = 1 ∧ l = intL n := by
  obtain ⟨r, rfl⟩ := h
  by_cases e : u = 1
  · exact ⟨e, by rw [e, ratL_one]⟩
  · rw [ratL_two e] at f
    exact absurd (List.mem_append_right _ (List.mem_cons_self ..)) f
/-- with one -/
theorem rat_stroke {p q : List Nat} {n u : Int} (h : IsRat (p ++ 47 :: q) n u) (f : (47 : Nat) ∉ p) : u ≠ 1 ∧ p = intL n ∧ q = TL.numL u.natAbs := by
  obtain ⟨r, e⟩ := h
  by_cases e1 : u = 1
  · rw [e1, ratL_one] at e
    exact absurd (by rw [← e]; exact List.mem_append_right _ (List.mem_cons_self ..)) (no47 n)
  · rw [ratL_two e1] at e
    have z := (par_head (sep := []) q f).symm.trans ((congrArg (TL.par [47] []) e).trans (par_head (sep := []) (intL u) (no47 n)))
    injection z with z
    injection z with z1 z2
    exact ⟨e1, z1, by rw [z2, intL_pos r.pos]⟩
theorem intL_inj {a b : Int} (h : intL a = intL b) : a = b := by
  have h1 := bare_int a
  have h2 := bare_int b
  rw [h] at h1
  have e1 := TL.numL_inj (h1.symm.trans h2)
  have e2 := head_int a
  rw [h, head_int b] at e2
  have e3 : (b < 0) ↔ (a < 0) := by
    constructor
    · intro z; exact of_decide_eq_true (e2.symm.trans (decide_eq_true z))
    · intro z; exact of_decide_eq_true (e2.trans (decide_eq_true z))
  omega
theorem isRat_inj {l : List Nat} {n u m t : Int} (h : IsRat l n u) (h' : IsRat l m t) : n = m ∧ u = t := by
  rcases split_at 47 l with f | ⟨p, q, rfl, f⟩
  · obtain ⟨e1, e2⟩ := rat_plain h f
    obtain ⟨e3, e4⟩ := rat_plain h' f
    exact ⟨intL_inj (e2.symm.trans e4), by rw [e1, e3]⟩
  · obtain ⟨_, e1, e2⟩ := rat_stroke h f
    obtain ⟨_, e3, e4⟩ := rat_stroke h' f
    have := TL.numL_inj (e2.symm.trans e4)
    have := h.1.pos
    have := h'.1.pos
    exact ⟨intL_inj (e1.symm.trans e3), by omega⟩
theorem numL_le {n k : Nat} (hk : 0 < k) (h : n < 10 ^ k) : (TL.numL n).length ≤ k := TL.numL_len hk h
theorem intL_le {n : Int} {k : Nat} (hk : 0 < k) (h : n.natAbs < 10 ^ k) : (intL n).length ≤ k + 1 := by
  have := numL_le hk h
  unfold intL
  split
  · rw [List.length_cons]; omega
  · omega
theorem ratL_le {n u : Int} {k j : Nat} (hk : 0 < k) (hj : 0 < j) (h : n.natAbs < 10 ^ k) (h' : u.natAbs < 10 ^ j) : (ratL n u).length ≤ k + j + 3 := by
  have h1 := intL_le hk h
  have h2 := intL_le hj h'
  unfold ratL
  split
  · omega
  · rw [List.length_append, List.length_cons]; omega
theorem digits_small {l : List Nat} {k : Nat} (h : figs l = true) (hl : l.length ≤ k) : digitsVal l < 10 ^ k := Nat.lt_of_lt_of_le (digitsVal_lt (figs_of h).2) (Nat.pow_le_pow_right (by decide) hl)
/-! ### the law's own reading of figures -/
def figN (w : List Nat) : Int := if figs w = true ∧ ¬ (w.head? = some 48 ∧ w ≠ [48]) then ((digitsVal w : Nat) : Int) else -1
theorem figN_num (n : Nat) : figN (TL.numL n) = (n : Int) := by
  have h : ¬ ((TL.numL n).head? = some 48 ∧ TL.numL n ≠ [48]) := by
    rintro ⟨h1, h2⟩
    have := num_lead n h1
    subst this
    exact h2 (TL.numL_lt (by decide))
  unfold figN
  rw [if_pos ⟨numL_figs n, h⟩, TL.numL_val]
theorem figN_le {w : List Nat} {k : Nat} (hk : 0 < k) (h : w.length ≤ k) : (figN w).natAbs < 10 ^ k := by
  unfold figN
  split
  · rename_i c
    have := digits_small c.1 h
    omega
  · exact Nat.one_lt_pow (by omega) (by decide)
theorem bare_len (l : List Nat) : (bare l).length ≤ l.length := by
  unfold bare
  split
  · rw [List.length_tail]; omega
  · exact Nat.le_refl _
theorem in_fig (c : Nat) : decide (c ∈ (Str.cps "0123456789").toList) = dig c := by
  have e : (Str.cps "0123456789").toList = [48, 49, 50, 51, 52, 53, 54, 55, 56, 57] := by rfl
  rw [e]
  unfold dig
  by_cases h : 48 ≤ c ∧ c ≤ 57
  · rw [decide_eq_true h.1, decide_eq_true h.2]
    refine decide_eq_true ?_
    simp only [List.mem_cons, List.not_mem_nil, or_false]
    omega
  · have : (decide (48 ≤ c) && decide (c ≤ 57)) = false := by
      rw [Bool.and_eq_false_iff]
      by_cases h1 : 48 ≤ c
      · exact .inr (decide_eq_false fun z => h ⟨h1, z⟩)
      · exact .inl (decide_eq_false h1)
    rw [this]
    refine decide_eq_false fun z => h ?_
    simp only [List.mem_cons, List.not_mem_nil, or_false] at z
    omega
/-! ### slices -/
theorem slice_ab (m : List Nat) (i j : Nat) : Txt.slice (S m) (some (i : Int)) (some (j : Int)) = S ((m.drop (min i m.length)).take (min j m.length - min i m.length)) := by
  rw [← C8.cutS_slice]
  unfold L2.cutS
  rw [HT.sIx_nat, HT.sIx_nat, S_len]
theorem emp_cat (m : List Nat) : Str.empty ++ S m = S m := S_cat [] m
theorem stroke_S : Str.ofString "/" = S [47] := rfl
theorem blank_S : Str.ofString " " = S [32] := rfl
end G
namespace G
open PySem SX NumText
/-! ### short texts of plain signs -/
def TxtOk (l : List Nat) (k : Nat) : Prop := l.length ≤ k ∧ ∀ c ∈ l, c < 128
theorem TxtOk.mono {l : List Nat} {j k : Nat} (h : TxtOk l j) (hk : j ≤ k) : TxtOk l k := ⟨Nat.le_trans h.1 hk, h.2⟩
theorem TxtOk.app {l m : List Nat} {j k n : Nat} (h : TxtOk l j) (h' : TxtOk m k) (hn : j + k ≤ n) : TxtOk (l ++ m) n := ⟨by rw [List.length_append]; have := h.1; have := h'.1; omega, fun c hc => (List.mem_append.mp hc).elim (h.2 c) (h'.2 c)⟩
theorem TxtOk.take {l : List Nat} {k : Nat} (h : TxtOk l k) (i : Nat) : TxtOk (l.take i) (min i l.length) := ⟨by rw [List.length_take]; omega, fun c hc => h.2 c (List.mem_of_mem_take hc)⟩
theorem TxtOk.drop {l : List Nat} {k : Nat} (h : TxtOk l k) (i : Nat) : TxtOk (l.drop i) (l.length - i) := ⟨by rw [List.length_drop]; omega, fun c hc => h.2 c (List.mem_of_mem_drop hc)⟩
theorem txt_of (l : List Nat) (k : Nat) (h : (decide (l.length ≤ k) && l.all (· < 128)) = true) : TxtOk l k := by
  obtain ⟨h1, h2⟩ := Bool.and_eq_true_iff.mp h
  exact ⟨of_decide_eq_true h1, fun c hc => of_decide_eq_true (List.all_eq_true.mp h2 c hc)⟩
theorem slice_end {l : List Nat} {k : Nat} (h : TxtOk l k) : ∃ r, Txt.slice (S l) (some (-1)) none = S r ∧ TxtOk r 1 := by
  by_cases e : l = []
  · subst e
    exact ⟨[], rfl, by simp, fun c hc => nomatch hc⟩
  · refine ⟨_, slice_last e, ?_, fun c hc => h.2 c (List.mem_of_mem_drop hc)⟩
    rw [List.length_drop]
    omega
theorem slice_one {l : List Nat} {k : Nat} (h : TxtOk l k) (j : Nat) : ∃ r, Txt.slice (S l) (some (j : Int)) (some ((j : Int) + 1)) = S r ∧ TxtOk r 1 := by
  refine ⟨_, slice_ab l j (j + 1), ?_, fun c hc => h.2 c (List.mem_of_mem_drop (List.mem_of_mem_take hc))⟩
  rw [List.length_take]
  omega
theorem int_txt (n : Int) : ∀ c ∈ intL n, c < 128 := fun c hc => by
  rcases intL_mem hc with e | e <;> omega
theorem rat_txt (n u : Int) : ∀ c ∈ ratL n u, c < 128 := fun c hc => by
  unfold ratL at hc
  split at hc
  · exact int_txt n c hc
  · rcases List.mem_append.mp hc with e | e
    · exact int_txt n c e
    · rcases List.mem_cons.mp e with e | e
      · omega
      · exact int_txt u c e
end G

namespace G
open PySem PySem.Spec PyProof.Rows L2

/-! ### a list comprehension without tests whose element makes new things at most -/
/-- all but lists stays -/
def NoL (H H' : Hp) : Prop := ∀ b o, H b = some o → (∀ zs, o ≠ .lst zs) → H' b = some o
theorem NoL.same {H H' : Hp} (S : Same H H') : NoL H H' := fun b o e _ => S b o e
theorem noL_upd {H : Hp} {D : Addr} {xs ys : List V} (h : H D = some (.lst xs)) : NoL H (upd H D (.lst ys)) := fun b o e n => by
  have : b ≠ D := fun z => by
    rw [z, h] at e
    exact n xs (Option.some.inj e).symm
  rw [upd_ne this]
  exact e
theorem lc_rel {K : PySem.W.Frag} {a : Addr} {xs : List V} {i0 : Nat} {te : TE} {vs : List Nat} {σ : L2.St} {H1 : Hp} {D : Addr} {Qd : Hp → Prop} (R : V → V → Hp → Prop) (hR : ∀ x y H H', NoL H H' → R x y H → R x y H')
    (hD : H1 D = none) (ha : SqL K H1 a xs) (hz : xs.length < sizeLine) (hw : ∀ x, wipe ((wipe σ vs).set i0 (some x)) vs = wipe σ vs)
    (he : ∀ x ∈ xs, ∀ H' (Q : VK), Same H1 H' → (∀ y H'', Same H' H'' → R x y H'' → Q y H'') → te ((wipe σ vs).set i0 (some x)) H' Q)
    (hd : ∀ ys H', Same H1 H' → H' D = some (.lst ys) → Paired (fun x y => R x y H') xs ys → Qd H') :
    ∃ W : Nat → Nat → Hp → Prop, (∃ m, W 0 m (upd H1 D (.lst []))) ∧ ∀ i m H, W i m H →
      ((Itl K a).stop i H ∧ Qd H) ∨ ((Itl K a).go i H ∧ ∃ Nx : Hp → Prop, (∀ H', Nx H' → ∃ m', m' < m ∧ W (i + 1) m' H') ∧ ∀ x H', (Itl K a).yld i H x H' → gName i0 x (wipe σ vs) H' fun σ2 H2 => wipe σ2 vs = wipe σ vs ∧ tYes σ2 H2 fun b H3 =>
        if b = true then te σ2 H3 fun y H4 => ∃ acc, H4 D = some (.lst acc) ∧ acc.length < sizeLine ∧ Nx (upd H4 D (.lst (acc ++ [y]))) else Nx H3) := by
  refine lc_list (K := K) (a := a) (xs := xs) (fun i H' => Same H1 H' ∧ ∃ ys, H' D = some (.lst ys) ∧ Paired (fun x y => R x y H') (xs.take i) ys) ⟨same_new hD, [], upd_same, by rw [List.take_zero]; exact .nil⟩ ?_ ?_ ?_
  · rintro i H' hi ⟨S, _⟩
    exact S.seq ha
  · rintro i x H' hx ⟨S, ys, dy, p⟩
    obtain ⟨hi, ex⟩ := List.getElem?_eq_some_iff.mp hx
    refine ⟨hw x, ?_⟩
    unfold tYes
    refine iteT (he x (ex ▸ List.getElem_mem hi) H' _ S fun y H'' S2 r => ?_)
    have d2 := S2 _ _ dy
    have len := p.length
    rw [List.length_take] at len
    refine ⟨ys, d2, by omega, fun b o e => ?_, ys ++ [y], upd_same, ?_⟩
    · rw [upd_ne (ne_of_none e hD)]
      exact S2 _ _ (S _ _ e)
    · rw [List.take_succ, hx]
      have nl := noL_upd (ys := ys ++ [y]) d2
      refine PySem.Paired.snoc (Paired.mapP p fun x y r => hR _ _ _ _ nl (hR _ _ _ _ (NoL.same S2) r)) (hR _ _ _ _ nl r)
  · rintro H' ⟨S, ys, dy, p⟩
    rw [List.take_length] at p
    exact hd ys H' S dy p
end G

namespace G
open PySem PySem.Spec PyProof.Rows L2 SX

/-! ### repr of data with longer ints -/
structure GdF (d : PyData) : Prop where
  short : d.leavesShort 80 = true
  show_ : d.showable = true
  depth : d.depth ≤ 10
  weight : d.weight ≤ 10000
theorem GdF.fits {d : PyData} (g : GdF d) : d.shown.length ≤ sizeLine := by
  have := PyData.shown_le 80 (by decide) d g.short
  have h := g.weight
  rw [sizeLine_eq]
  have : (80 + 2) * d.weight ≤ 82 * 10000 := Nat.mul_le_mul (by decide) h
  omega
mutual
/-- data without dicts -/
inductive Dz (H : Hp) : V → PyData → Prop
  | int (i : Int) : Dz H (.int i) (.int i)
  | non : Dz H .non .none
  | lst {a : Addr} {xs : List V} {ds : List PyData} : H a = some (.lst xs) → DzAll H xs ds → Dz H (.ref a) (.list ds)
  | tup {a : Addr} {xs : List V} {ds : List PyData} : H a = some (.tup xs) → DzAll H xs ds → Dz H (.ref a) (.tuple ds)
inductive DzAll (H : Hp) : List V → List PyData → Prop
  | nil : DzAll H [] []
  | cons {v : V} {vs : List V} {d : PyData} {ds : List PyData} : Dz H v d → DzAll H vs ds → DzAll H (v :: vs) (d :: ds)
end
section
variable {X : Cx} {pins : List (Addr × Obj)} {σ : L2.St} {H : Hp} {s : Shared}
mutual
theorem Dz.reads (I : Inv X pins σ H s) : ∀ {v : V} {d : PyData} {u : Value}, Dz H v d → RelV v u → ∃ as, Reads s.heap u d as
  | _, _, _, .non, r => by cases r; exact ⟨_, .none⟩
  | _, _, _, .int i, r => by obtain ⟨t, rfl⟩ := r; exact ⟨_, .int i t⟩
  | _, _, _, .lst e t, r => by
    cases r
    obtain ⟨_, its, m, rv, ho⟩ := I.hok _ _ e
    obtain ⟨as, hr⟩ := DzAll.reads I t rv
    exact ⟨_, .list ho rfl rfl hr⟩
  | _, _, _, .tup e t, r => by
    cases r
    obtain ⟨_, its, rv, o, ho, hc, m, hd⟩ := I.hok _ _ e
    obtain ⟨as, hr⟩ := DzAll.reads I t rv
    exact ⟨_, .tuple ho hc hd hr⟩
theorem DzAll.reads (I : Inv X pins σ H s) : ∀ {vs : List V} {ds : List PyData} {us : List Value}, DzAll H vs ds → Vals vs us → ∃ as, ReadsAll s.heap us ds as
  | _, _, _, .nil, r => by cases r; exact ⟨_, .nil⟩
  | _, _, _, .cons h t, r => by
    cases r with
    | cons r1 r2 =>
      obtain ⟨as, q1⟩ := Dz.reads I h r1
      obtain ⟨bs, q2⟩ := DzAll.reads I t r2
      exact ⟨_, .cons q1 q2⟩
end
end
theorem call_reprF {X : Cx} (hq : Quiet X.A) (hu : X.A.units + 64 < cLine) : CallR X (.builtin "repr") (fun xs H Q => ∃ a d, xs = [.ref a] ∧ Dz H (.ref a) d ∧ GdF d ∧ d.hasDict = false ∧ Q (.str d.shown) H) := by
  intro pins s σ H xs us Q I r h
  obtain ⟨a, d, rfl, hd, g, nd, q⟩ := h
  obtain ⟨u, rfl, ru⟩ := vals1 r
  cases ru
  obtain ⟨as, hr⟩ := Dz.reads I hd rfl
  refine repr_of_reads' (h₀ := s.heap) hr g.show_ (fun z => by rw [nd] at z; cases z) hq (by have := g.depth; omega) (fun _ _ z => z) (fun h' t tk hk => ?_) g.fits
  exact ⟨.str d.shown, H, I.kept hk, ⟨_, rfl⟩, q⟩
/-- two ints -/
def Mid (i : Int) : Prop := i.natAbs < 10 ^ 64
theorem mid_short {i : Int} (h : Mid i) : (PyData.int i).leavesShort 80 = true := by
  refine decide_eq_true ?_
  show (Str.ofString (toString i)).length ≤ 80
  rw [int_L, S_len]
  have := intL_le (k := 64) (by decide) h
  omega
theorem mid_show {i : Int} (h : Mid i) : (PyData.int i).showable = true := decide_eq_true (Nat.lt_of_lt_of_le (PySem.Flt.log2_lt_of (k := 213) (by decide) (Nat.lt_of_lt_of_le h (by decide +kernel))) (by decide))
theorem mid_weight {i : Int} (h : Mid i) : (PyData.int i).weight ≤ 300 := by
  have := PySem.Flt.log2_lt_of (k := 213) (by decide) (Nat.lt_of_lt_of_le h (show 10 ^ 64 ≤ 2 ^ 213 by decide +kernel))
  show (if i == 0 then 0 else i.natAbs.log2 + 1) ≤ 300
  split <;> omega
def pairD (n u : Int) : PyData := .tuple [.int n, .int u]
theorem pair_good {n u : Int} (h : Mid n) (h' : Mid u) : (pairD n u).leavesShort 80 = true ∧ (pairD n u).showable = true ∧ (pairD n u).depth ≤ 1 ∧ (pairD n u).weight ≤ 1000 := by
  refine ⟨?_, ?_, ?_, ?_⟩
  · show ((PyData.int n).leavesShort 80 && ((PyData.int u).leavesShort 80 && true)) = true
    rw [mid_short h, mid_short h']
    rfl
  · show ((PyData.int n).showable && ((PyData.int u).showable && true)) = true
    rw [mid_show h, mid_show h']
    rfl
  · show max 0 (max 0 0) + 1 ≤ 1
    decide
  · show (PyData.int n).weight + 1 + ((PyData.int u).weight + 1 + 0) ≤ 1000
    have := mid_weight h
    have := mid_weight h'
    omega
theorem pair_gd {n u : Int} (h : Mid n) (h' : Mid u) : GdF (pairD n u) := by
  obtain ⟨a, b, c, d⟩ := pair_good h h'
  exact ⟨a, b, by omega, by omega⟩
theorem pairs_gd {n u m t : Int} (h1 : Mid n) (h2 : Mid u) (h3 : Mid m) (h4 : Mid t) : GdF (.list [pairD n u, pairD m t]) := by
  obtain ⟨a, b, c, d⟩ := pair_good h1 h2
  obtain ⟨a', b', c', d'⟩ := pair_good h3 h4
  refine ⟨?_, ?_, ?_, ?_⟩
  · show ((pairD n u).leavesShort 80 && ((pairD m t).leavesShort 80 && true)) = true
    rw [a, a']
    rfl
  · show ((pairD n u).showable && ((pairD m t).showable && true)) = true
    rw [b, b']
    rfl
  · show max (pairD n u).depth (max (pairD m t).depth 0) + 1 ≤ 10
    omega
  · show (pairD n u).weight + 1 + ((pairD m t).weight + 1 + 0) ≤ 10000
    omega
theorem rat_small {l : List Nat} {n u : Int} (h : IsRat l n u) (hl : l.length ≤ 60) : Mid n ∧ Mid u ∧ 0 < u := by
  have hp := h.1.pos
  have up : ∀ k : Nat, (TL.numL k).length ≤ 60 → k < 10 ^ 64 := fun k hk => by
    have := digits_small (numL_figs k) hk
    rw [TL.numL_val] at this
    exact Nat.lt_of_lt_of_le this (by decide +kernel)
  have num : (TL.numL n.natAbs).length ≤ (intL n).length := by
    unfold intL
    split
    · rw [List.length_cons]; omega
    · exact Nat.le_refl _
  rcases split_at 47 l with f | ⟨p, q, rfl, f⟩
  · obtain ⟨rfl, rfl⟩ := rat_plain h f
    exact ⟨up _ (by omega), by show (1 : Int).natAbs < 10 ^ 64; decide +kernel, by decide⟩
  · obtain ⟨_, rfl, rfl⟩ := rat_stroke h f
    rw [List.length_append, List.length_cons] at hl
    exact ⟨up _ (by omega), up _ (by omega), hp⟩
end G

namespace G
open PySem PySem.Spec PyProof.Rows L2

/-! ### a list comprehension whose element may look at the def's frame as it stands when the comprehension begins -/
section
variable {X : Cx} {elt tg iter : Expr} {scope : Scope} {own : List (Str × Nat)} {pos : Pos} {wi : TI} {g : TG} {te : L2.St → TE}
/-- the block's own environment -/
abbrev inEnv (X : Cx) (scope : Scope) (z : Nat) : Env := compEnvC scope (cellsFrom (z + 1) scope.names (cloFrom X.env.cells scope.names [])) z X.env
/-- behind a turn, and ahead of the first one -/
def Between (B : Cx) (vs : List Nat) (σ : L2.St) (fp : List Addr) (tn : Nat → Heap → Prop) (W : Nat → Nat → Hp → Prop) (n : Nat) (s : Shared) : Prop :=
  ∃ i H, Inv B [] (wipe σ vs) H s ∧ tn i s.heap ∧ (∀ b ∈ fp, H b = none) ∧ W i n H
theorem between_next {B : Cx} {vs : List Nat} {σ σ1 : L2.St} {fp : List Addr} {tn : Nat → Heap → Prop} {W : Nat → Nat → Hp → Prop} {tg : Expr} {J : It} {it : Addr} {i m n : Nat} {h : Heap} {H : Hp} {s : Shared}
    (T : Turn B.prog B.w B.K tg J fp it tn) (I : Inv B ([] ++ pinsAt fp h) σ1 H s) (st : tn i h) (same : wipe σ1 vs = wipe σ vs) (hw : W i m H) (hm : m < n) : ∃ k, k < n ∧ Between B vs σ fp tn W k s := by
  have stays : ∀ b ∈ fp, ∀ o, h.get? b = some o → s.heap.get? b = some o ∧ H b = none := fun b hb o e =>
    have z := I.pin (b, o) (List.mem_append_right _ (List.mem_append_right _ (mem_pinsAt hb e)))
    ⟨z.1, z.2.1⟩
  refine ⟨m, hm, i, H, ?_, T.keep _ _ _ st fun b hb o e => (stays b hb o e).1, fun b hb => ?_, hw⟩
  · have len : (wipe σ vs).length = σ1.length := by rw [← same, wipe_length]
    refine I.unpinned.weak len fun j v e => ?_
    rw [← same] at e
    exact (wipe_some e).1
  · obtain ⟨o, e, _⟩ := T.obj _ _ st b hb
    exact (stays b hb o e).2
theorem pe_lcC (hc : X.calm = true) (hN : X.N.Nodup) (hi : PI X tg iter wi) (ok : BlkOk X.N X.env.scope scope own)
    (hg : ∀ (s : Shared) (H : Hp) (C : Addr) (cl : List (Str × Addr)) (fp : List Addr), PG (X.blk s H scope (compEnvC scope cl C X.env) fp) tg g)
    (he : ∀ (pins : List (Addr × Obj)) (σ : L2.St) (s : Shared) (H : Hp) (C : Addr) (cl : List (Str × Addr)) (fp : List Addr), Inv X pins σ H s → (∀ b ∈ fp, FpOk X pins H b) → PE (X.blk s H scope (compEnvC scope cl C X.env) fp) elt (te σ))
    (hs : ∀ x, foldedSetIterable iter X.env x = pure x := by intro _; rfl) :
    PE X (.ListComp elt [⟨tg, iter, [], 0⟩] scope pos) (fun σ H Q => tLc wi g tYes (te σ) (own.map (·.2)) σ H Q) := by
  constructor
  intro pins s σ H Q I h
  rw [eval_ListComp]
  have caught : ∀ y ∈ scope.names, y.2 = .free → ∃ c, X.env.cells.lookup y.1 = some c := fun y hy e => (ok.free y hy e).elim (fun k => I.ok.has _ (.inl k)) fun k => I.ok.has _ (.inr k)
  apply wpAny_comprehension_free (use := none) rfl hs (closure_ok caught) ok.kind (fun y hy e => by rw [ok.uniq y hy, e])
  apply thn (hi.run pins s σ H _ I h)
  intro v s1 h1
  apply thn h1
  rintro itv s2 ⟨it, fp, tn, J, H2, rfl, I2, T, st2, f2, q⟩
  apply wpAny_newObj_type _ (by show 0 ≤ sizeLine; decide)
  apply newEnv_comp
  -- the list that is to be filled
  obtain ⟨W, ⟨m0, w0⟩, turn⟩ := q s2.heap.objs.size (I2.hok.fresh (Nat.le_refl _))
  let L : Addr := s2.heap.objs.size
  let s3 : Shared := { s2 with heap := s2.heap.push { cls := .type "list", data := .seq ([] : List Value).toArray } }
  let H3 : Hp := upd H2 L (.lst [])
  have up : ∀ b o, s2.heap.get? b = some o → s3.heap.get? b = some o := fun b o e => Heap.get?_push_of_some _ e
  have I3 : Inv X pins σ H3 s3 := I2.laid (t' := s2.toks) up (Nat.le_refl _) ⟨Nat.zero_le _, [], 0, .nil, Heap.get?_push_size _ rfl⟩
  have old : ∀ b ∈ fp, b < s2.heap.objs.size := fun b hb => by
    obtain ⟨o, e, _⟩ := T.obj _ _ st2 b hb
    exact Heap.lt_size e
  have z3 : s3.heap.objs.size = s2.heap.objs.size + 1 := Heap.size_push ..
  have f3 : ∀ b ∈ fp, FpOk X pins H3 b := fun b hb => ⟨(upd_ne (Nat.ne_of_lt (old b hb))).trans (f2 b hb).1, (f2 b hb).2⟩
  have I4 := block_start I3 ok hN fun b hb => ⟨f3 b hb, Nat.lt_of_lt_of_le (old b hb) (by rw [z3]; exact Nat.le_succ _)⟩
  let B : Cx := X.blk s3 H3 scope (inEnv X scope s3.heap.objs.size) fp
  have st3 : tn 0 s3.heap := T.keep _ _ _ st2 fun b _ o e => up b o e
  let s4 : Shared := { s3 with heap := pushCells (s3.heap.push { cls := .type "dict", data := .dict #[] }) scope.names }
  have st4 : tn 0 s4.heap := T.keep _ _ _ st3 fun b _ o e => pushCells_keeps _ _ _ _ (Heap.get?_push_of_some _ e)
  replace I4 : Inv B [] (wipe σ (own.map (·.2))) H3 s4 := I4
  have mine : ∀ {σ' : L2.St} {H' : Hp} {s' : Shared}, Inv B [] σ' H' s' → (∀ b ∈ fp, H' b = none) → ∀ b ∈ fp, FpOk B [] H' b := fun J n b hb =>
    ⟨n b hb, (J.ok.exf b hb).1, J.ok.exfs b hb, .inl hb, fun x c e => (J.ok.exf b hb).2 x c e, fun p hp => nomatch (show p ∈ ([] : List (Addr × Obj)) from hp)⟩
  show codeAny _ _ (.compStart _ 0 (.ref it) (.ref L) (inEnv X scope s3.heap.objs.size)) _ s4
  have all : codeAny (model X.prog X.w) X.A (.compLoop (.ListComp elt [⟨tg, iter, [], 0⟩] scope pos) 0 (.ref it) (.ref L) (inEnv X scope s3.heap.objs.size)) (compPost (model X.prog X.w) X.A X.xe none (EP X pins σ Q) (.ref L) s3.heap.objs.size) s4 := by
    apply compLoop_any (Between B (own.map (·.2)) σ fp tn W) _ m0 ⟨0, H3, I4, st4, fun b hb => (f3 b hb).1, w0⟩
    rintro n s5 ⟨i, H5, I5, st5, n5, w5⟩
    rcases turn i n H5 w5 with ⟨stop, fin⟩ | ⟨go, Nx, hNx, step⟩
    · -- no item left
      apply thnF (T.done B rfl rfl rfl hc i [] s5 _ H5 (fun _ _ => False) I5 (mine I5 n5) st5 stop)
      rintro r s6 ⟨rfl, I6⟩
      have I7 : Inv X pins σ H5 s6 := I3.call' (ch := fp) I6.os I6.base I6.hok I6.bare fun b hb => ⟨(f3 b hb).2.2.2.1, (f3 b hb).2.1, (f3 b hb).2.2.2.2.1, (f3 b hb).2.2.2.2.2⟩
      obtain ⟨m, hn, _⟩ := I6.loc
      refine ⟨m, hn, fun h'' sb => ?_⟩
      obtain ⟨g0, g1, g2, g3, g4, g5⟩ := I3.fpOk (Nat.le_refl _) (show H5 s3.heap.objs.size = none from I6.free)
      exact ⟨.ref L, H5, I7.turned (t' := s6.toks) (fun b o hb e => (sb.2 b hb).trans e) g0 g1 g3 g4 g5, rfl, fin⟩
    · -- one more
      apply thnF (T.item B rfl rfl rfl hc i [] s5 _ H5 (fun _ _ => False) I5 (mine I5 n5) st5 go)
      rintro r s6 ⟨u, rfl, h6⟩
      apply thnF h6
      rintro _ s7 ⟨x, H7, I7, r7, y7, st7, n7⟩
      have J7 := I7.pinned (mine I7 n7) (T.obj _ _ st7)
      apply thnF ((hg s3 H3 _ _ fp).run _ s7 _ H7 x u _ J7 r7 (step x H7 y7))
      rintro _ s8 ⟨σ8, H8, I8, same, q8⟩
      apply thnF ((pts_nil (X := B)).run _ s8 σ8 H8 _ I8 q8)
      rintro b s9 ⟨H9, I9, q9⟩
      cases b with
      | false =>
        rw [if_neg Bool.false_ne_true] at q9 ⊢
        obtain ⟨m', hm, w'⟩ := hNx _ q9
        exact between_next T I9 st7 same w' hm
      | true =>
        rw [if_pos rfl] at q9 ⊢
        apply thnF ((he pins σ s3 H3 s3.heap.objs.size _ fp I3 f3).run _ s9 σ8 H9 _ I9 q9)
        rintro z s10 ⟨yv, H10, I10, r10, acc, hD, hz, nx⟩
        apply app_ok (X := B) I10 hD hz r10
        intro s11 I11
        obtain ⟨m', hm, w'⟩ := hNx _ nx
        exact between_next T I11 st7 same w' hm
  exact codeAny_compStart_list all (T.self X.A 0 _ _ _ st4 all)
end
end G

namespace G
open PySem PySem.Spec PyProof.Rows L2 LamX NdefX

/-! ### lambdas that are kept: in slots, in lists, handed on -/
/-- a lambda's words, the cells that it captured, its code object -/
structure LF where
  qual : Str
  params : Arguments
  body : Expr
  scope : Scope
  cl : List (Str × Addr)
  c : Addr
abbrev LF.nf (F : LF) : NF := ⟨"<lambda>", F.qual, F.params, [], F.scope, F.cl, F.c⟩
/-- the object at f is the lambda F -/
def LamO (f : Addr) (F : LF) : HO := .ext fun h => ∃ pm ctv : Value, h.get? f = some (PySem.W.kla_obj "<lambda>" F.qual F.params F.body F.scope F.cl pm F.c ctv)
theorem lamO_ne {f : Addr} {F : LF} (ps : Array Value) : LamO f F ≠ .tbl ps := fun z => by
  unfold LamO at z
  cases z
theorem lamO_no {f : Addr} {F : LF} {xs : List V} : LamO f F ≠ .lst xs := fun z => by
  unfold LamO at z
  cases z
theorem lamO_at {P : Program} {w : World} {H : Hp} {h : Heap} {f : Addr} {F : LF} (hok : HOk P w H h) (e : H f = some (LamO f F)) : ∃ pm ctv : Value, h.get? f = some (PySem.W.kla_obj "<lambda>" F.qual F.params F.body F.scope F.cl pm F.c ctv) := (hok f _ e).1
section
variable {X : Cx} {pins : List (Addr × Obj)} {σ : L2.St} {H : Hp} {s : Shared}
/-- it is known from its making on -/
theorem lam_put {F : LF} {h' : Heap} {t : Nat} {pm ctv : Value} {H1 : Hp} (I : Inv X pins σ H1 { s with heap := h', toks := t }) :
    Inv X pins σ (upd H1 h'.objs.size (LamO h'.objs.size F)) { s with heap := h'.push (PySem.W.kla_obj "<lambda>" F.qual F.params F.body F.scope F.cl pm F.c ctv), toks := t } := by
  have e : (h'.push (PySem.W.kla_obj "<lambda>" F.qual F.params F.body F.scope F.cl pm F.c ctv)).get? h'.objs.size = some (PySem.W.kla_obj "<lambda>" F.qual F.params F.body F.scope F.cl pm F.c ctv) := Heap.get?_push_size _ rfl
  exact I.laid (t' := t) (a := h'.objs.size) (fun b u z => Heap.get?_push_of_some _ z) (Nat.le_refl _) ⟨⟨pm, ctv, e⟩, ⟨_, e⟩, fun h1 h2 ⟨p, q, z⟩ st => ⟨p, q, st _ z⟩⟩
/-- the table with one more code object -/
theorem tabs_more {T : List (Addr × Str)} {P c' : Addr} {q : Str} {ps : Array Value} {pos : Pos} (hT : Tabs T H) (hm : (P, q) ∈ T) (hu : ∀ p ∈ T, p.1 = P → p.2 = q) (hP : H P = some (.tbl ps)) (nC : H c' = none) :
    Tabs T (upd (upd H P (.tbl (ps ++ #[rawInt pos.line, rawInt pos.col, .ref c']))) c' (CodeO c' q)) ∧ ExtN H (upd (upd H P (.tbl (ps ++ #[rawInt pos.line, rawInt pos.col, .ref c']))) c' (CodeO c' q)) := by
  have nPc : P ≠ c' := ne_of_none hP nC
  have ext : ExtN H (upd (upd H P (.tbl (ps ++ #[rawInt pos.line, rawInt pos.col, .ref c']))) c' (CodeO c' q)) := by
    intro b o e n
    have b1 : b ≠ c' := ne_of_none e nC
    have b2 : b ≠ P := fun z => by
      rw [z, hP] at e
      exact n ps (Option.some.inj e).symm
    rw [upd_ne b1, upd_ne b2, e]
  have list : (ps ++ #[rawInt pos.line, rawInt pos.col, .ref c']).toList = ps.toList ++ [rawInt pos.line, rawInt pos.col, .ref c'] := by simp
  refine ⟨fun p hp => ?_, ext⟩
  obtain ⟨ps1, h1, h2, h3⟩ := hT p hp
  by_cases same : p.1 = P
  · rw [same, hP] at h1
    cases h1
    refine ⟨_, by rw [same, upd_ne nPc, upd_same], by rw [list]; exact PySem.TriplesOk_snoc _ _ _ _ h2, fun p' cv hcv => ?_⟩
    rw [list] at hcv
    rw [hu p hp same]
    rcases among_app _ h2 hcv with z | z
    · obtain ⟨c0, e1, e2⟩ := h3 p' cv z
      rw [hu p hp same] at e2
      exact ⟨c0, e1, ext _ _ e2 codeO_ne⟩
    · exact ⟨c', z, upd_same⟩
  · refine ⟨ps1, by rw [upd_ne (ne_of_none h1 nC), upd_ne same]; exact h1, h2, fun p' cv hcv => ?_⟩
    obtain ⟨c0, e1, e2⟩ := h3 p' cv hcv
    exact ⟨c0, e1, ext _ _ e2 codeO_ne⟩
end
/-- what a lambda's making asks: mk, the lambda by its code object -/
def tLamK (T : List (Addr × Str)) (mk : Addr → LF) : TE := fun σ H Q => Tabs T H ∧ ∀ f c' H1, ExtN H H1 → Tabs T H1 → (∀ b, H1 b = none → H b = none) → H f = none → H1 f = some (LamO f (mk c')) → H1 c' = some (CodeO c' (mk c').qual) → Q (.ref f) H1
abbrev lamOf (X : Cx) (params : Arguments) (body : Expr) (scope : Scope) (c' : Addr) : LF := ⟨X.env.qual ++ "<lambda>", params, body, scope, cloFrom X.env.cells scope.names [], c'⟩
theorem none_upd {H : Hp} {a b : Addr} {o : HO} (h : upd H a o b = none) : H b = none := by
  by_cases e : b = a
  · rw [e, upd_same] at h
    cases h
  · rw [upd_ne e] at h
    exact h
theorem pe_lamK {X : Cx} {T : List (Addr × Str)} {c P : Addr} {params : Arguments} {body : Expr} {scope : Scope} {pos : Pos} (TB : TabB X.base X.mg c P) (hcode : X.env.code = .ref c) (hm : (P, lamName X) ∈ T) (hu : ∀ p ∈ T, p.1 = P → p.2 = lamName X)
    (hdef : defaultsOf params X.env = ([], [])) (L : LamS X.env.scope scope) : PE X (.Lambda params body scope pos) (tLamK T (lamOf X params body scope)) := by
  constructor
  rintro pins s σ H Q I ⟨hT, q⟩
  apply PySem.W.kla_eval hdef
  obtain ⟨ps, hP, ht, ha⟩ := hT _ hm
  have atB : s.heap.BuiltinsAt X.mg P := TB.bm.keeps I.bk
  have atP : s.heap.get? P = some { cls := .none, data := .fields ps } := I.hok P _ hP
  have clos := closure_ok (L.has I.ok)
  -- once the code object is known
  have fin : ∀ (c' : Addr) (ctv pm : Value) (h' : Heap) (t : Nat) (H1 : Hp), Inv X pins σ H1 { s with heap := h', toks := t } → ExtN H H1 → Tabs T H1 → (∀ b, H1 b = none → H b = none) → s.heap.objs.size ≤ h'.objs.size → H1 c' = some (CodeO c' (lamName X)) →
      EP X pins σ Q (.ref h'.objs.size) { s with heap := h'.push (PySem.W.kla_obj "<lambda>" (lamName X) params body scope (cloFrom X.env.cells scope.names []) pm c' ctv), toks := t } := fun c' ctv pm h' t H1 J e T1 fr sz hc => by
    have nF : H1 h'.objs.size = none := J.hok.fresh (Nat.le_refl _)
    refine ⟨.ref h'.objs.size, _, lam_put (F := lamOf X params body scope c') J, rfl, q h'.objs.size c' _ (fun b o z n => ?_) (T1.ext fun b o z => ?_) (fun b z => fr b (none_upd z)) (I.hok.fresh sz) upd_same ?_⟩
    · have z1 := e b o z n
      rw [upd_ne (ne_of_none z1 nF)]
      exact z1
    · rw [upd_ne (ne_of_none z nF)]
      exact z
    · rw [upd_ne (ne_of_none hc nF)]
      exact hc
  cases hit : codeAmong pos ps.toList with
  | some cv =>
    obtain ⟨c', rfl, hco⟩ := ha pos cv hit
    apply PySem.W.kla_makeFunctionHit (mg := X.mg) (c := c) (P := P) (ps := ps) clos I.ok.glob (I.mod.glob.keeps I.bk) hcode (TB.code.keeps I.bk) atP ht hit atB
    intro ctv h' t stay sz
    exact fin c' ctv _ h' t H (I.kept stay) (ExtN.refl H) hT (fun _ z => z) sz hco
  | none =>
    apply PySem.W.kla_makeFunction (mg := X.mg) (c := c) (P := P) (ps := ps) clos I.ok.glob (I.mod.glob.keeps I.bk) hcode (TB.code.keeps I.bk) atP ht hit TB.gP atB
    intro c' ctv h' t stay ge lt rec_ tab
    obtain ⟨c2, oc, vs, tk, e2, hoc, hd, hv⟩ := rec_
    cases e2
    have nC : H c' = none := I.hok.fresh ge
    obtain ⟨T1, ext⟩ := tabs_more (pos := pos) hT hm hu hP nC
    have J := inv_table (t' := t) (more := #[rawInt pos.line, rawInt pos.col, .ref c']) (h' := h') I hP (fun b o hb e => stay b o hb e) tab ge ⟨oc, vs, tk, hoc, hd, hv⟩
    exact fin c' ctv _ h' t _ J ext T1 (fun b z => none_upd (none_upd z)) (Nat.le_trans ge (Nat.le_of_lt lt)) upd_same
end G

namespace G
open PySem PySem.Spec PyProof.Rows L2 LamX NdefX

/-! ### what is known of a lambda -/
section
variable (P : Program) (w : World) (K : PySem.W.Frag) (mg : Str → Option Value) (base : Heap)
/-- its call, in any state in which its cells hold ws, does what tl reads -/
def LamB (k : Nat) (f : Addr) (F : LF) (fr : List Str) (ws : List (Option V)) (tl : XK → Hp → VK → Prop) : Prop :=
  ∀ (A : Around) (outer : List Env) (s : Shared) (H : Hp) (E : XK) (Q : VK), Room k A → Env0 P w K mg base A outer s H → H f = some (LamO f F) → H F.c = some (CodeO F.c F.qual) → CellsAt F.cl fr ws s.heap H → tl E H Q →
    codeAny (model P w) A (.call (.ref f) ⟨[], []⟩) (CR (L2.CX P w) outer P w H s Q E) s
/-- a def whose first argument is a lambda that it calls: spc, from what the lambda's call does; d: how much deeper than the lambda -/
structure FnC (CX : CXT) (d : Nat) (g : Addr) (fd : FuncData) (ps : List Str) (spc : (XK → Hp → VK → Prop) → Sp) : Prop where
  len : ∀ tl vs H Q E, spc tl vs H Q E → vs.length = ps.length
  run : ∀ (A : Around) (outer : List Env) (s : Shared) (H : Hp) (args : Args) (us : List Value) (vs : List V) (Q : VK) (E : XK) (f : Addr) (F : LF) (fr : List Str) (ws : List (Option V)) (k : Nat) (tl : XK → Hp → VK → Prop),
    Quiet A → Room (k + d) A → Env0 P w K mg base A outer s H → BindsTo s fd args (ps.zip us) → Vals vs us → vs.head? = some (.ref f) → H f = some (LamO f F) → H F.c = some (CodeO F.c F.qual) → CellsAt F.cl fr ws s.heap H →
    (∀ y c, F.cl.lookup y = some c → c ∉ frs outer) → LamB P w K mg base k f F fr ws tl → spc tl vs H Q E → codeAny (model P w) A (.call (.ref g) args) (CR CX outer P w H s Q E) s
end
section
variable {P : Program} {w : World} {K : PySem.W.Frag} {mg : Str → Option Value} {base : Heap}
theorem LamB.mono {j k : Nat} {f : Addr} {F : LF} {fr : List Str} {ws : List (Option V)} {tl : XK → Hp → VK → Prop} (L : LamB P w K mg base j f F fr ws tl) (h : j ≤ k) : LamB P w K mg base k f F fr ws tl :=
  fun A outer s H E Q hr => L A outer s H E Q (hr.mono h)
theorem lamB_of {k : Nat} {f : Addr} {F : LF} {fr : List Str} {ws : List (Option V)} {tb : XK → TE} (S : NScope fr [] fr F.scope) (nb : ∀ pm ctv : Value, bindArgs (PySem.W.kla_fn "<lambda>" F.qual F.params F.body F.scope F.cl pm (.ref F.c) ctv) ⟨[], []⟩ = pure [])
    (bd : ∀ (A : Around) (outer : List Env) (s : Shared) (H : Hp) (E : XK), Room k (A.deeper (envF F.nf f s.heap.objs.size)) → PE (ncx (L2.CX P w) P w K mg base fr F.nf f A outer s H E) F.body (tb E)) :
    LamB P w K mg base (k + 1) f F fr ws (fun E H Q => tb E ws H Q) := by
  intro A outer s H E Q hr e0 hf hc C ht
  have lim : s.heap.NoLimit := e0.mod.nolimit.keeps fun b o e => (e0.bs b o e).1
  obtain ⟨pm, ctv, ho⟩ := lamO_at e0.hok hf
  apply PySem.W.kla_callFunE hr.depth ho rfl S.co S.gen rfl (codeO_at e0.hok hc)
  rw [nb]
  apply wpAny_pure
  apply wpAny_newFunctionEnv S.nocell (fun y hy => nomatch (show y ∈ ([] : List (Str × Value)) from hy)) _ S.kind
  intro h₁ hns hsb
  refine ⟨lim.fresh _ hsb, ?_⟩
  have kp : ∀ b o, s.heap.get? b = some o → h₁.get? b = some o := fun b o e => hsb.extBut b o (Nat.ne_of_lt (Heap.lt_size e)) (Heap.get?_push_of_some _ e)
  have J := inv_startN (CX := L2.CX P w) (N := fr) (F := F.nf) (f := f) (E := E) (us := []) (vs := []) (tk := s.toks + ([] : List (Str × Value)).length) S hr.hd e0 rfl .nil C hns kp
  have st : startF fr [] ws = ws := by
    unfold startF
    rw [C.len, List.map_nil, List.nil_append, List.length_nil, Nat.sub_zero, Nat.sub_self, List.replicate_zero, List.append_nil]
  rw [st] at J
  apply PySem.W.kla_codeExpr
  apply wpAny_mono ((bd A outer s H E (hr.deeper _)).run [] _ ws H Q J ht)
  · rintro v s' ⟨v', H', J', rv, q⟩
    exact ⟨v', H', J'.os, J'.bare, J'.base, J'.hok, rv, q⟩
  · exact fun _ _ z => z
/-- a def's body, from what is known of the lambda at its entry -/
theorem fnC_of {CX : CXT} {d : Nat} {g : Addr} {name qual : Str} {params : Arguments} {body : List Stmt} {scope : Scope} {kV doc pm cdv ct oc : Value} {an od : Option Addr} {osl : Array (Option Value)} {N ps : List Str} {spc : (XK → Hp → VK → Prop) → Sp}
    (lk : K.lookup g = some ⟨oc, od, .func (PySem.W.fnOf name qual params body scope .none kV doc pm an cdv ct), osl⟩) (hcd : PySem.W.codeIn K cdv qual = true) (S : FnScope N ps scope) (len : ∀ tl vs H Q E, spc tl vs H Q E → vs.length = ps.length)
    (body_ok : ∀ (A : Around) (outer : List Env) (s : Shared) (H : Hp) (vs : List V) (Q : VK) (E : XK) (f : Addr) (F : LF) (fr : List Str) (ws : List (Option V)) (k : Nat) (tl : XK → Hp → VK → Prop), Quiet A → Room (k + d) (A.deeper (envOfC qual scope s.heap.objs.size g cdv)) →
      vs.head? = some (.ref f) → H f = some (LamO f F) → H F.c = some (CodeO F.c F.qual) → CellsAt F.cl fr ws s.heap H → (∀ y c, F.cl.lookup y = some c → c ∉ frs outer) → LamB P w K mg base k f F fr ws tl → spc tl vs H Q E →
      ∃ t, PSs (cxOf CX P w K mg base N qual scope g cdv A outer s H E) body t ∧ t { nx := fun _ H' => Q .non H', rt := Q } (L2.start N vs) H) :
    FnC P w K mg base CX (d + 1) g (PySem.W.fnOf name qual params body scope .none kV doc pm an cdv ct) ps spc := by
  refine ⟨len, fun A outer s H args us vs Q E f F fr ws k tl hq hr e0 hb r h1 h2 h3 C nf L hsp => ?_⟩
  exact run_ofS lk hcd S (show Room (k + d + 1) A from hr) e0 hb r (len _ _ _ _ _ hsp) fun hr' => body_ok A outer s H vs Q E f F fr ws k tl hq hr' h1 h2 h3 C nf L hsp
end
section
variable {Z : Cx} {pins : List (Addr × Obj)} {σ : L2.St} {H : Hp} {s : Shared}
/-- cells that were there at the entry are none of the running frames -/
theorem stack_free {cl : List (Str × Addr)} {fr : List Str} {ws : List (Option V)} (ok : Z.Ok) (C : CellsAt cl fr ws Z.s_0.heap Z.H_0) (nf : ∀ y c, cl.lookup y = some c → c ∉ Z.fs) : ∀ y c, cl.lookup y = some c → c ∉ frs Z.stack := by
  intro y c e hm
  rcases ok.stk with z | ⟨z, zf⟩
  · rw [z] at hm
    exact nf y c e hm
  · rw [z] at hm
    unfold frs at hm
    rw [List.filterMap_cons, zf] at hm
    rcases List.mem_cons.mp hm with r | r
    · obtain ⟨_, v, q⟩ := C.all y c e
      have h1 := q.lt
      rw [r] at h1
      exact Nat.lt_irrefl _ (Nat.lt_of_lt_of_le h1 ok.above)
    · exact nf y c e r
/-- a def's own cells are none of the running frames -/
theorem own_free (I : Inv Z pins σ H s) (fn : ∀ y c, Z.env.cells.lookup y = some c → Z.fn y = true) : ∀ y c, Z.env.cells.lookup y = some c → c ∉ frs Z.stack := by
  have old : ∀ y c, Z.env.cells.lookup y = some c → c ∉ Z.fs := fun y c e hm => by
    obtain ⟨_, o, ho, _⟩ := I.ok.funs.mem hm
    exact Nat.lt_irrefl _ (Nat.lt_of_lt_of_le (Heap.lt_size ho) (I.ok.cab y c (fn y c e) e))
  intro y c e hm
  rcases I.ok.stk with z | ⟨z, zf⟩
  · rw [z] at hm
    exact old y c e hm
  · rw [z] at hm
    unfold frs at hm
    rw [List.filterMap_cons, zf] at hm
    rcases List.mem_cons.mp hm with r | r
    · obtain ⟨v, o, ho, hd⟩ := I.cell y c e
      obtain ⟨m, ⟨o', es, ep, ho', hd', _⟩, _⟩ := I.loc
      rw [r, ho'] at ho
      cases ho
      rw [hd] at hd'
      cases hd'
    · exact old y c e r
end
end G

namespace G
open PySem PySem.Spec PyProof.Rows L2 LamX NdefX

/-! ### calls of lambdas that are known, and of defs that call them -/
/-- a(), in a def's body that got the lambda; it is known at the entry -/
theorem pe_callL {Y : Cx} {W : WX} {f : Addr} {F : LF} {fr : List Str} {ws : List (Option V)} {k i : Nat} {tl : XK → Hp → VK → Prop} {a : Str} {p1 p2 : Pos} (tk : Takes Y W) (hr : Room k Y.A) (C : CellsAt F.cl fr ws Y.s_0.heap Y.H_0)
    (nf : ∀ y c, F.cl.lookup y = some c → c ∉ Y.fs) (hx : Y.ex = []) (L : LamB Y.prog Y.w Y.K Y.mg Y.base k f F fr ws tl) (hN : Y.N[i]? = some a) (hv : Vis Y.env.scope a) (hd : (a == ("__debug__" : Str)) = false := by decide) (hcd : (a == ("__classdict__" : Str)) = false := by decide) :
    PE Y (.Call (.Name a p1) [] [] p2) (fun σ H Q => σ[i]? = some (some (.ref f)) ∧ H f = some (LamO f F) ∧ H F.c = some (CodeO F.c F.qual) ∧ tl (fun cls d H' => W cls d σ H') H Q) := by
  constructor
  rintro pZ sZ σZ HZ Q IZ ⟨hs, hf, hc, ht⟩
  apply wpAny_Call_Name_kw
  apply thn ((pe_var (pos := p1) (i := i) hN hv hd hcd).run pZ sZ σZ HZ (fun v H1 => v = .ref f ∧ H1 = HZ) IZ ⟨.ref f, hs, rfl, rfl⟩)
  rintro u s1 ⟨v, H1, I1, r1, rfl, rfl⟩
  obtain rfl : u = Value.ref f := r1
  obtain ⟨pm, ctv, of1⟩ := lamO_at I1.hok hf
  apply PySem.W.callWith_F0 ⟨_, _, _, _, of1⟩
  have C1 := C.later nf (fun y c e => by rw [hx]; exact fun z => nomatch z) I1
  have rc := L Y.A Y.stack s1 H1 (fun cls d H' => W cls d σZ H') Q hr I1.env0 hf hc C1 ht
  apply wpAny_call
  apply codeAny_mono rc
  intro r s' hq
  match r, hq with
  | .error e, hq => exact passAt tk σZ pZ H1 s1 e s' I1 hq
  | .ok .next, hq => exact hq.elim
  | .ok .brk, hq => exact hq.elim
  | .ok .cont, hq => exact hq.elim
  | .ok (.ret w), hq => exact I1.after hq
/-- what is known of the lambdas that R tells -/
def Known (Z : Cx) (d : Nat) (R : L2.St → Addr → LF → (XK → Hp → VK → Prop) → Prop) : Prop := ∀ (pins : List (Addr × Obj)) (σ : L2.St) (H : Hp) (s : Shared) (f : Addr) (F : LF) (tl : XK → Hp → VK → Prop), Inv Z pins σ H s → R σ f F tl →
  ∃ (fr : List Str) (ws : List (Option V)) (k : Nat), Room (k + d) Z.A ∧ CellsAt F.cl fr ws s.heap H ∧ (∀ y c, F.cl.lookup y = some c → c ∉ frs Z.stack) ∧ LamB Z.prog Z.w Z.K Z.mg Z.base k f F fr ws tl
/-- x(look, ..) -/
def tCallC (spc : (XK → Hp → VK → Prop) → Sp) (R : L2.St → Addr → LF → (XK → Hp → VK → Prop) → Prop) (dvs : List V) (E : XK) (t : TA) : TE := fun σ H Q => t σ H fun vs H1 => ∃ f F tl, R σ f F tl ∧ (vs ++ dvs).head? = some (.ref f) ∧ H1 f = some (LamO f F) ∧ H1 F.c = some (CodeO F.c F.qual) ∧ spc tl (vs ++ dvs) H1 Q E
theorem pe_fnC {Z : Cx} {CXg : CXT} {d : Nat} {g : Addr} {fd : FuncData} {ps : List Str} {spc : (XK → Hp → VK → Prop) → Sp} {R : L2.St → Addr → LF → (XK → Hp → VK → Prop) → Prop} {dvs : List V} {ds : List Value} {E : XK} {x : Str} {p pos : Pos} {e : Expr} {es : List Expr} {t : TA}
    (F : FnC Z.prog Z.w Z.K Z.mg Z.base CXg d g fd ps spc) (hq : Quiet Z.A) (hg : Gl Z x) (hm : Z.mg x = some (.ref g)) (hk : PySem.W.keepIn Z.K (.ref g) = true) (hb : Binds Z.K fd ps ds) (hd : Vals dvs ds) (hx : Passes CXg Z E) (ha : PA Z (e :: es) t) (known : Known Z d R)
    (hdb : (x == ("__debug__" : Str)) = false := by decide) (he : starEach (e :: es) Z.env = (false, eval e Z.env) :: starEach es Z.env := by rfl) (hpl : (backTo pos (starEach es Z.env)).any (·.1) = false := by rfl) :
    PE Z (.Call (.Name x p) (e :: es) [] pos) (tCallC spc R dvs E t) := by
  constructor
  intro pins s σ H Q I h
  apply wpAny_Call_Name_kw
  apply ld_glob I hg hm _ hdb
  apply PySem.W.callWith_K (h₀ := Z.base) I.ok.mod.kin hk _ he hpl
  apply thn (ha.run pos pins s σ H _ I h)
  rintro us s1 ⟨vs, H1, I1, r, f, G, tl, hR, hh, hf, hc, q⟩
  refine ⟨I1.kIn, ?_⟩
  obtain ⟨fr, ws, k, hr, C, nf, L⟩ := known pins σ H1 s1 f G tl I1 hR
  have r2 : Vals (vs ++ dvs) (us ++ ds) := r.append hd
  have hl : (us ++ ds).length = ps.length := r2.length.symm.trans (F.len _ _ _ _ _ q)
  apply wpAny_call
  apply codeAny_mono (F.run Z.A Z.stack s1 H1 ⟨us, []⟩ (us ++ ds) (vs ++ dvs) Q E f G fr ws k tl hq hr I1.env0 (hb s1 us I1.kIn hl) r2 hh hf hc C nf L q)
  intro res s' done
  match res, done with
  | .error e, z => exact hx pins σ H1 s1 e s' I1 z
  | .ok (.ret u), z => exact I1.after z
  | .ok .next, z => exact z.elim
  | .ok .brk, z => exact z.elim
  | .ok .cont, z => exact z.elim
/-- a lambda that was got as an argument -/
def RArg (f : Addr) (F : LF) (tl : XK → Hp → VK → Prop) : L2.St → Addr → LF → (XK → Hp → VK → Prop) → Prop := fun _ f' F' tl' => f' = f ∧ F' = F ∧ tl' = tl
theorem known_arg {Z : Cx} {d k : Nat} {f : Addr} {F : LF} {fr : List Str} {ws : List (Option V)} {tl : XK → Hp → VK → Prop} (C : CellsAt F.cl fr ws Z.s_0.heap Z.H_0) (nf : ∀ y c, F.cl.lookup y = some c → c ∉ Z.fs) (hx : Z.ex = []) (L : LamB Z.prog Z.w Z.K Z.mg Z.base k f F fr ws tl)
    (hr : Room (k + d) Z.A) : Known Z d (RArg f F tl) := by
  rintro pins σ H s f' F' tl' I ⟨rfl, rfl, rfl⟩
  exact ⟨fr, ws, k, hr, C.later nf (fun y c e => by rw [hx]; exact fun z => nomatch z) I, stack_free I.ok C nf, L⟩
/-- lambdas that were made here, by their places among the names -/
structure LamD (X : Cx) where
  params : Arguments
  body : Expr
  scope : Scope
  fr : List Str
  js : List Nat
  k : Nat
  tb : XK → TE
/-- what is asked of such a lambda -/
structure LamD.Good {X : Cx} (D : LamD X) : Prop where
  sc : NScope D.fr [] D.fr D.scope
  nb : ∀ (q : Str) (cl : List (Str × Addr)) (pm cv ctv : Value), bindArgs (PySem.W.kla_fn "<lambda>" q D.params D.body D.scope cl pm cv ctv) ⟨[], []⟩ = pure []
  free : ∀ y ∈ D.scope.names, y.2 = .free → X.env.scope.names.lookup y.1 = some .cell ∨ X.env.scope.names.lookup y.1 = some .free
  frm : ∀ y ∈ D.fr, (y, NameKind.free) ∈ D.scope.names
  at_ : D.js.map (fun j => X.N[j]?) = D.fr.map some
  bd : ∀ (f c' : Addr) (A : Around) (outer : List Env) (s : Shared) (H : Hp) (E : XK), Room D.k (A.deeper (envF (lamOf X D.params D.body D.scope c').nf f s.heap.objs.size)) → PE (ncx (L2.CX X.prog X.w) X.prog X.w X.K X.mg X.base D.fr (lamOf X D.params D.body D.scope c').nf f A outer s H E) D.body (D.tb E)
def RMade {X : Cx} (D : LamD X) (σ0 : L2.St) : L2.St → Addr → LF → (XK → Hp → VK → Prop) → Prop := fun _ _ F tl => ∃ c', F = lamOf X D.params D.body D.scope c' ∧ tl = fun E H Q => D.tb E (D.js.map (slotAt σ0)) H Q
def RHere {X : Cx} (D : LamD X) : L2.St → Addr → LF → (XK → Hp → VK → Prop) → Prop := fun σ f F tl => RMade D σ σ f F tl
theorem LamD.lam {X : Cx} {D : LamD X} (g : D.Good) (f c' : Addr) (ws : List (Option V)) : LamB X.prog X.w X.K X.mg X.base (D.k + 1) f (lamOf X D.params D.body D.scope c') D.fr ws (fun E H Q => D.tb E ws H Q) :=
  lamB_of (F := lamOf X D.params D.body D.scope c') g.sc (fun pm ctv => g.nb _ _ _ _ _) (fun A outer s H E hr => g.bd f c' A outer s H E hr)
theorem known_here {X : Cx} {D : LamD X} {d : Nat} (g : D.Good) (fn : ∀ y c, X.env.cells.lookup y = some c → X.fn y = true) (hr : Room (D.k + 1 + d) X.A) : Known X d (RHere D) := by
  rintro pins σ H s f F tl I ⟨c', rfl, rfl⟩
  have cp : Caps X (cloFrom X.env.cells D.scope.names []) D.fr D.js := Caps.made I.ok g.free g.frm g.at_
  exact ⟨D.fr, _, D.k + 1, hr, cells_of I cp, fun y c e => own_free I fn y c (cp.sub y c e), D.lam g f c' _⟩
theorem known_blk {X : Cx} {pins : List (Addr × Obj)} {σ : L2.St} {H : Hp} {s : Shared} {scope : Scope} {cenv : Env} {fp : List Addr} {d : Nat} {Ds : List (LamD X)} (I : Inv X pins σ H s) (hf : ∀ b ∈ fp, FpOk X pins H b) (g : ∀ D ∈ Ds, D.Good) (fn : ∀ y c, X.env.cells.lookup y = some c → X.fn y = true)
    (hr : ∀ D ∈ Ds, Room (D.k + 1 + d) X.A) : Known (X.blk s H scope cenv fp) d (fun σ' f F tl => ∃ D ∈ Ds, RMade D σ σ' f F tl) := by
  rintro pins' σ' H' s' f F tl I' ⟨D, hD, c', rfl, rfl⟩
  have gd := g D hD
  have cp : Caps X (cloFrom X.env.cells D.scope.names []) D.fr D.js := Caps.made I.ok gd.free gd.frm gd.at_
  have C : CellsAt (cloFrom X.env.cells D.scope.names []) D.fr (D.js.map (slotAt σ)) s.heap H := cells_of I cp
  have nf : ∀ y c, (cloFrom X.env.cells D.scope.names []).lookup y = some c → c ∉ frs X.stack := fun y c e => own_free I fn y c (cp.sub y c e)
  refine ⟨D.fr, _, D.k + 1, hr D hD, CellsAt.later (X := X.blk s H scope cenv fp) C nf (fun y c e hm => ?_) I', ?_, D.lam gd f c' _⟩
  · exact (hf c hm).2.2.2.2.1 y c (cp.sub y c e) rfl
  · exact stack_free (Z := X.blk s H scope cenv fp) I'.ok C nf
end G

namespace G
open PySem PySem.Spec PyProof.Rows L2

/-! ### None in a list of tuples and None -/
def isNo : Value → Bool
  | .none => true
  | _ => false
def noV : V → Bool
  | .non => true
  | _ => false
/-- the items are tuples, or None -/
def Tups (H : Hp) (xs : List V) : Prop := ∀ x ∈ xs, x = .non ∨ ∃ p ys, x = .ref p ∧ H p = some (.tup ys)
theorem isNo_any {H : Hp} : ∀ {xs : List V} {us : List Value}, Vals xs us → Tups H xs → us.any isNo = xs.any noV
  | _, _, .nil, _ => rfl
  | x :: xs, u :: us, .cons r t, h => by
    have ih := isNo_any t (fun y hy => h y (List.mem_cons_of_mem _ hy))
    rw [List.any_cons, List.any_cons, ih]
    rcases h x (List.mem_cons_self ..) with rfl | ⟨p, ys, rfl, _⟩
    · cases r; rfl
    · cases r; rfl
theorem op_nonIn {X : Cx} (hu : X.A.units + 64 < cLine) : OpR X (compareOp .In) (fun x y H Q => ∃ p xs, x = .non ∧ y = .ref p ∧ SqL X.K H p xs ∧ Tups H xs ∧ Q (.bl (xs.any noV)) H) := by
  intro pins s σ H x y v u Q I rx ry h
  obtain ⟨p, xs, rfl, rfl, hq, ht, q⟩ := h
  cases ry
  cases rx
  obtain ⟨its, r, pl, hz⟩ := I.list hq
  have each : ∀ {xs : List V} {us : List Value}, Vals xs us → Tups H xs → ∀ w ∈ us, SeqAt.EqAt X.A.in1 s w .none (isNo w) := fun {xs us} r => by
    induction r with
    | nil => intro _ w hw; cases hw
    | @cons x u xs us r1 r2 ih =>
      intro h w hw
      rcases List.mem_cons.mp hw with rfl | hw
      · rcases h x (List.mem_cons_self ..) with rfl | ⟨p, ys, rfl, hp⟩
        · cases r1; exact SeqAt.EqAt.same _
        · cases r1
          obtain ⟨its2, _, tp, _⟩ := I.tuple (SqT.of (K := X.K) hp)
          exact SeqAt.EqAt.tuple_none tp (by show X.A.units + 1 < cLine; omega)
      · exact ih (fun y hy => h y (List.mem_cons_of_mem _ hy)) w hw
  refine SeqAt.in_listAt isNo pl.isList (fun w hw => each r ht w (by simpa using hw)) ⟨.bl _, H, I, rfl, ?_⟩
  rw [show its.toArray.any isNo = its.any isNo by simp, isNo_any r ht]
  exact q
end G

namespace G
open PySem PySem.Spec PyProof.Rows L2

/-! ### == and != by an own __eq__, whatever stands on the right -/
section
variable {prog : Program} {w : World} {A : Around} {E : Value → Shared → Prop} {s : Shared} {K : PySem.W.Frag} {x C L f : Addr} {h₀ : Heap} {m : Str → Option Value} {ox : Obj} {od : Option Obj} {b tb : Value}
theorem ifBound_ne {M : Model} {args : List Value} {Q : Option Value → Shared → Prop} (X : K.In s.heap) (I : PySem.W.InstAt s.heap x ox C od) (hs : PySem.W.findIn K (.ref C) "__ne__" = some (some (.builtin "object.__ne__")))
    (h : wpAny M A (call (.builtin "object.__ne__") (.ref x :: args)) (fun v => Q (some v)) E s) : wpAny M A (callSpecialIfBound? (.ref x) "__ne__" args) Q E s := by
  simp only [callSpecialIfBound?, bindSpecialIfBound?]
  refine wpAny_holding (wpAny_bind (wpAny_bind (wpAny_bind (I.type.here ((PySem.W.looks_findIn X hs).here ?_)))))
  refine wpAny_bind (wpAny_askSetting (wpAny_ite ?_))
  have fin : wpAny M A (call (.builtin "object.__ne__") ([.ref x] ++ args) >>= fun v => pure (some v)) Q E s := wpAny_bind (wpAny_mono h (fun v s' h' => wpAny_pure h') fun _ _ h' => h')
  have bd : bindSpecial (.builtin "object.__ne__") (.ref x) = pure (.builtin "object.__ne__", [.ref x]) := PySem.F.cmp_object.ne.bind _
  rw [bd]
  split
  · exact wpAny_bind (wpAny_pure (wpAny_pure (by exact fin)))
  · exact wpAny_tryCatch (wpAny_bind (wpAny_pure (wpAny_pure (by exact fin))))
theorem ne_entry {Q : Fin → Shared → Prop} (X : K.In s.heap) (I : PySem.W.InstAt s.heap x ox C od) (hs : PySem.W.findIn K (.ref C) "__eq__" = some (some (.ref f))) (hf : PySem.W.isFn K (.ref f) = true) (hu : A.units < cLine)
    (hcall : wpAny (model prog w) A (call (.ref f) [.ref x, b]) (fun v s' => ∃ r, v = .bool r ∧ Q (.done (.ret (.bool (!r)))) s') E s) :
    wpAny (model prog w) A (Builtin.«object.__ne__» ⟨[.ref x, b], []⟩) Q E s := by
  unfold Builtin.«object.__ne__»
  repeat (first
    | with_reducible refine wpAny_cRoomFor hu ?_
    | (refine wpAny_bind (m := callSpecialIfBound? (.ref x) (Str.ofString "__eq__") [b])
        (PySem.W.ifBound_K X I hs hf (wpAny_mono hcall (fun r s' hr => by
          obtain ⟨b, rfl, hq⟩ := hr
          repeat (first | exact hq | exact wpAny_pure hq | exact wpAny_truthy_bool hq | (refine wpAny_bind (m := truthy (.bool _)) (wpAny_truthy_bool ?_)) | wp_step)) fun _ _ e => e)))
    | wp_step)
theorem ne_K {Q : Value → Shared → Prop} (hu : A.units + 1 < cLine) (F : Fr h₀ L s.heap m) (X₀ : K.In h₀) (I : PySem.W.InstAt s.heap x ox C od) (hb : PySem.W.Looks (model prog w) s.heap (typeOf b) tb) (hn : PySem.W.notFirst K C tb = true)
    (hs : PySem.W.findIn K (.ref C) "__eq__" = some (some (.ref f))) (hf : PySem.W.isFn K (.ref f) = true) (hne : PySem.W.findIn K (.ref C) "__ne__" = some (some (.builtin "object.__ne__"))) (hm : PySem.W.mroIn K C (.type "object") = some true)
    (h : wpAny (model prog w) A.in1 (call (.ref f) [.ref x, b]) (fun v s' => ∃ r, v = .bool r ∧ Q (.bool (!r)) s') E s) : wpAny (model prog w) A (richCompare .NotEq (.ref x) b) Q E s := by
  have X := X₀.keeps F.keep
  have sub : PySem.W.Looks (model prog w) s.heap (isInstance (.ref x) (.type "object")) true := I.type.andThen (PySem.W.looks_mroIn X hm)
  have one : wpAny (model prog w) A (tryCompare (.ref x) (cmpInfo .NotEq).2.1 b) (fun r s' => ∃ v, r = some v ∧ Q v s') E s := by
    unfold tryCompare
    refine wpAny_bind (ifBound_ne X I hne (wpAny_call (codeAny_call_builtin PySem.F.cmp_object.ne.plain PySem.F.cmpEntry_ne
      (@PySem.W.check_slot (model prog w) _ _ s "object.__ne__" "object" "__ne__" (.ref x) [b] [] _ PySem.F.cmpKind_ne PySem.F.cmpSplit_ne sub (PySem.F.cmpArgs_ne _ _) ?_))))
    refine ne_entry (A := A.in1) X I hs hf hu (wpAny_mono h (fun v s' hv => ?_) fun _ _ e => e)
    obtain ⟨r, rfl, hq⟩ := hv
    exact ⟨r, rfl, wpAny_pure ⟨_, rfl, hq⟩⟩
  unfold richCompare
  simp only [oneThing_ref]
  refine wpAny_holding (wpAny_bind (wpAny_cRoomFor (Nat.lt_of_succ_lt hu) ?_))
  refine wpAny_bind (I.type.here (wpAny_bind (hb.here ?_)))
  split
  · rename_i q
    have e : PySem.W.subIn K tb (.ref C) = some false := by
      rcases Bool.or_eq_true_iff.mp hn with e | e
      · rw [beq_iff_eq.mp e] at q; simp at q
      · exact beq_iff_eq.mp e
    refine wpAny_bind ((PySem.W.looks_subIn X e).here ?_)
    simp only [Bool.false_eq_true, if_false]
    refine wpAny_bind (wpAny_mono one (fun r s' z => ?_) fun _ _ e => e)
    obtain ⟨v, rfl, hq⟩ := z
    exact wpAny_pure hq
  · refine wpAny_bind (wpAny_pure ?_)
    simp only [Bool.false_eq_true, if_false]
    refine wpAny_bind (wpAny_mono one (fun r s' z => ?_) fun _ _ e => e)
    obtain ⟨v, rfl, hq⟩ := z
    exact wpAny_pure hq
end
/-- what stands on the right, with its type -/
inductive RTy (H : Hp) : V → Value → Prop
  | int (i : Int) : RTy H (.int i) (.type "int")
  | str (z : Str) : RTy H (.str z) (.type "str")
  | ins {b C dx : Addr} {fs : List (Str × V)} (h : H b = some (.ins C dx fs)) : RTy H (.ref b) (.ref C)
  | tup {b : Addr} {xs : List V} (h : H b = some (.tup xs)) : RTy H (.ref b) (.type "tuple")
/-- the class's own __eq__, and no __ne__ of its own -/
structure EqC (K : PySem.W.Frag) (C f : Addr) : Prop where
  at_ : PySem.W.findIn K (.ref C) "__eq__" = some (some (.ref f))
  fn : PySem.W.isFn K (.ref f) = true
  ne : PySem.W.findIn K (.ref C) "__ne__" = some (some (.builtin "object.__ne__"))
  ob : PySem.W.mroIn K C (.type "object") = some true
  nf : ∀ t : String, (t == "int" || t == "str" || t == "tuple") = true → PySem.W.notFirst K C (.type t) = true
section
variable {X : Cx} {CX : CXT} {C f : Addr} {n : Nat} {sp : Sp} {E : XK} {fd : FuncData} {ps : List Str}
theorem rty_looks {pins : List (Addr × Obj)} {σ : L2.St} {H : Hp} {s : Shared} {y : V} {u t : Value} (I : Inv X pins σ H s) (r : L2.RelV y u) (h : RTy H y t) : PySem.W.Looks (model X.prog X.w) s.heap (typeOf u) t := by
  cases h with
  | int i =>
    obtain ⟨k, rfl⟩ := (show ∃ t, u = Value.int i t from r)
    exact PySem.W.Looks.of_pure rfl
  | str z =>
    obtain ⟨k, rfl⟩ := (show ∃ t, u = Value.str z t from r)
    exact PySem.W.Looks.of_pure rfl
  | ins h =>
    cases (show u = Value.ref _ from r)
    obtain ⟨od, mA, J, _⟩ := ins_inst I h
    exact J.type
  | tup h =>
    cases (show u = Value.ref _ from r)
    obtain ⟨_, its, rv, ob, e, c⟩ := I.hok _ _ h
    exact fun A Q E s k q => wpAny_typeOf_ref (k _ _ e) (by rw [c.1]; exact q)
/-- x op y, op == or != -/
def rEqK (C : Addr) (K : PySem.W.Frag) (sp : Sp) (E : XK) : R2 := fun x y H Q => ∃ a dx fs t, x = .ref a ∧ H a = some (.ins C dx fs) ∧ RTy H y t ∧ PySem.W.notFirst K C t = true ∧ sp [x, y] H Q E
def rNeK (C : Addr) (K : PySem.W.Frag) (sp : Sp) (E : XK) : R2 := fun x y H Q => ∃ a dx fs t, x = .ref a ∧ H a = some (.ins C dx fs) ∧ RTy H y t ∧ PySem.W.notFirst K C t = true ∧ sp [x, y] H (fun v H' => ∃ b, v = .bl b ∧ Q (.bl (!b)) H') E
theorem op_eqK (O : EqC X.K C f) (F : FnR X.prog X.w X.K X.mg X.base CX n f sp) (hr : Room n X.A) (hx : Passes CX X E) : OpR X (compareOp .Eq) (rEqK C X.K sp E) := by
  intro pins s σ H x y v u Q I rx ry h
  obtain ⟨a, dx, fs, t, rfl, ha, hy, nf, q⟩ := h
  cases (show v = Value.ref a from rx)
  obtain ⟨od, mA, J, _⟩ := ins_inst I ha
  obtain ⟨m, hF⟩ := I.fr
  show wpAny _ _ (richCompare .Eq _ _) _ _ _
  refine PySem.W.cmp_K (op := .Eq) (tb := t) hr.units0 hF I.ok.mod.kin J (rty_looks I ry hy) nf O.at_ O.fn ?_
  refine wpAny_mono (wpAny_call (run_fnR (us := [.ref a, u]) (vs := [.ref a, y]) F hr hx I (.cons rfl (.cons ry .nil)) q)) (fun w s' z => ?_) fun _ _ x => x
  obtain ⟨z', H', I', rz, qz⟩ := z
  exact SlX.cmpback rz ⟨z', H', I', rz, qz⟩
theorem op_neK (O : EqC X.K C f) (F : FnOk X.prog X.w X.K X.mg X.base CX n f fd ps sp) (hb : Binds X.K fd ps []) (hr : Room (n + 1) X.A) (hx : Passes CX X E) : OpR X (compareOp .NotEq) (rNeK C X.K sp E) := by
  intro pins s σ H x y v u Q I rx ry h
  obtain ⟨a, dx, fs, t, rfl, ha, hy, nf, q⟩ := h
  cases (show v = Value.ref a from rx)
  obtain ⟨od, mA, J, _⟩ := ins_inst I ha
  obtain ⟨m, hF⟩ := I.fr
  show wpAny _ _ (richCompare .NotEq _ _) _ _ _
  refine ne_K (tb := t) (by have := hr.un; omega) hF I.ok.mod.kin J (rty_looks I ry hy) nf O.at_ O.fn O.ne O.ob ?_
  have e0 : Env0 X.prog X.w X.K X.mg X.base X.A.in1 X.stack s H := by
    have e := I.env0
    exact ⟨e.frames, e.mod, e.bs, e.bsz, e.funs, e.frf, e.hok, e.bare⟩
  have hl := F.len _ _ _ _ q
  have r2 : Vals [V.ref a, y] [Value.ref a, u] := .cons rfl (.cons ry .nil)
  refine wpAny_call (codeAny_mono (F.run X.A.in1 X.stack s H ⟨[.ref a, u], []⟩ [.ref a, u] [.ref a, y] _ E hr.in1 e0 (by
    have := hb s [.ref a, u] I.kIn (by simpa using hl)
    simpa using this) r2 q) fun r s' hq => ?_)
  cases r with
  | error e => exact hx pins σ H s e s' I hq
  | ok fl =>
    cases fl with
    | ret w =>
      obtain ⟨z, H', I', rz, b, rfl, qz⟩ := I.after hq
      obtain rfl : w = Value.bool b := rz
      exact ⟨b, rfl, .bl (!b), H', I', rfl, qz⟩
    | next => exact False.elim hq
    | brk => exact False.elim hq
    | cont => exact False.elim hq
end
end G
namespace L2
open PySem PySem.Spec PyProof.Rows
theorem FunD.okX {P : Program} {w : World} {K : PySem.W.Frag} {mg : Str → Option Value} {base : Heap} {x qual : Str} {params : Arguments} {body : List Stmt} {scope : Scope} {dvs : List V} {kws : List (Str × V)} {f : Addr} {fd : FuncData} {N ps : List Str} {k : Nat} {sp : Sp}
    (F : FunD K x qual params body scope dvs kws f fd) (S : FnScope N ps scope) (len : ∀ vs H Q E, sp vs H Q E → vs.length = ps.length)
    (hbody : ∀ (cdv : Value) (A : Around) (outer : List Env) (s : Shared) (H : Hp) (vs : List V) (Q : VK) (E : XK), Room k (A.deeper (envOfC qual scope s.heap.objs.size f cdv)) → sp vs H Q E →
      ∃ t, PSs (cxOf (L2.CX P w) P w K mg base N qual scope f cdv A outer s H E) body t ∧ t { nx := fun _ H' => Q .non H', rt := Q } (start N vs) H) : FnOk P w K mg base (L2.CX P w) (k + 1) f fd ps sp :=
  F.ok S len hbody
end L2

namespace G
open PySem PySem.Spec PyProof.Rows L2
/-- an operator that a class has for its own instances alone -/
structure OpS (K : PySem.W.Frag) (C f : Addr) (nm : String) : Prop where
  first : PySem.W.selfFirst K C = true
  has : PySem.W.findIn K (.ref C) (PySem.dunder nm) = some (some (.ref f))
  isF : PySem.W.isFn K (.ref f) = true
section
variable {X : Cx} {CX : CXT} {C f : Addr} {n : Nat} {sp : Sp} {E : XK}
theorem op_binS {op : Operator} (O : OpS X.K C f op.info.2) (F : FnR X.prog X.w X.K X.mg X.base CX n f sp) (hr : Room n X.A) (hx : Passes CX X E) : OpR X (binaryOp op) (rBinK C sp E) := by
  rintro pins s σ H x y v u Q I rx ry ⟨a, b, dx, dy, fs, gs, rfl, rfl, ha, hb, q⟩
  cases (show v = Value.ref a from rx)
  cases (show u = Value.ref b from ry)
  obtain ⟨_, _, J, _⟩ := ins_inst I ha
  obtain ⟨_, _, J', _⟩ := ins_inst I hb
  obtain ⟨m, hF⟩ := I.fr
  apply PySem.W.binop_K hF I.ok.mod.kin J J'.type O.first O.has O.isF
  apply wpAny_mono (wpAny_call (run_fnR (us := [.ref a, .ref b]) (vs := [.ref a, .ref b]) F hr hx I (.cons rfl (.cons rfl .nil)) q))
  · rintro w s' ⟨z', H', I', rz, qz⟩
    exact SlX.cmpback rz ⟨z', H', I', rz, qz⟩
  · exact fun _ _ z => z
end
theorem op_or {X : Cx} {op : Value → Value → Sem Value} {R1 R2 : L2.R2} (h1 : OpR X op R1) (h2 : OpR X op R2) : OpR X op (fun x y H Q => R1 x y H Q ∨ R2 x y H Q) := by
  rintro pins s σ H x y v u Q I rx ry (h | h)
  · exact h1 pins s σ H x y v u Q I rx ry h
  · exact h2 pins s σ H x y v u Q I rx ry h
theorem red_cross {n u : Int} (h : u ≠ 0) : rNum n u * u = n * rUnd n u := by
  have e1 := num_mul (n := n) h
  have e2 := und_mul (n := n) h
  generalize byOf n u = g at *
  generalize rNum n u = m at *
  generalize rUnd n u = t at *
  subst e1
  have : m * (g * t) = g * m * t := by grind
  rw [← this, e2]
theorem absmul {a b : Int} {x y : Nat} (ha : a.natAbs ≤ x) (hb : b.natAbs ≤ y) : (a * b).natAbs ≤ x * y := by
  rw [Int.natAbs_mul]
  exact Nat.mul_le_mul ha hb
/-- one and the same object, or plain values that are equal: what stands in the tuple of an error and in that of the law -/
def DOne : Eqv := fun x y H => DFlat x y H ∨ ∃ a, x = .ref a ∧ y = .ref a
theorem mon_one : Mon DOne := fun x y H H' e d => d.imp (fun d => mon_flat x y H H' e d) id
theorem eqG_one {X : Cx} : EqG X 0 DOne := fun A pins s σ H x y u v sb I rx ry d => by
  rcases d with d | ⟨a, rfl, rfl⟩
  · exact eqG_flat A pins s σ H x y u v sb I rx ry d
  · cases (show u = Value.ref a from rx)
    cases (show v = Value.ref a from ry)
    exact SeqAt.EqAt.same (A := A) (s := s) (.ref a) X.prog X.w X.xe _ ⟨rfl, H, I, Ext.rfl'⟩
/-- == of two tuples of such items: they are equal -/
theorem op_eqOne {X : Cx} (hr : Room 1 X.A) : OpR X (compareOp .Eq) (rEqG (DTup X.K DOne)) := op_eqG (rcG_tup mon_one eqG_one) hr
/-- one fraction, by its cross products -/
theorem rat_same {a b c d : Int} (hb : b ≠ 0) (hd : d ≠ 0) (h : a * d = c * b) : rNum a b = rNum c d ∧ rUnd a b = rUnd c d := by
  have r1 := red_of (n := a) hb
  have r2 := red_of (n := c) hd
  have e1 := num_mul (n := a) hb
  have e2 := und_mul (n := a) hb
  have e3 := num_mul (n := c) hd
  have e4 := und_mul (n := c) hd
  have g1 := byOf_ne (n := a) hb
  have g2 := byOf_ne (n := c) hd
  generalize byOf a b = g at e1 e2 g1
  generalize byOf c d = k at e3 e4 g2
  generalize rNum a b = n at *
  generalize rUnd a b = u at *
  generalize rNum c d = m at *
  generalize rUnd c d = t at *
  have x : n * t = m * u := by
    have z : (g * k) * (n * t) = (g * k) * (m * u) := by
      rw [← e1, ← e2, ← e3, ← e4] at h
      grind
    exact Int.eq_of_mul_eq_mul_left (Int.mul_ne_zero g1 g2) z
  have d1 : u.natAbs ∣ t.natAbs := by
    refine Nat.Coprime.dvd_of_dvd_mul_left (m := n.natAbs) (Nat.Coprime.symm r1.one) ?_
    rw [← Int.natAbs_mul, x, Int.natAbs_mul]
    exact Nat.dvd_mul_left _ _
  have d2 : t.natAbs ∣ u.natAbs := by
    refine Nat.Coprime.dvd_of_dvd_mul_left (m := m.natAbs) (Nat.Coprime.symm r2.one) ?_
    rw [← Int.natAbs_mul, ← x, Int.natAbs_mul]
    exact Nat.dvd_mul_left _ _
  have eu : u = t := by
    have := Nat.dvd_antisymm d1 d2
    have := r1.pos
    have := r2.pos
    omega
  subst eu
  exact ⟨Int.eq_of_mul_eq_mul_right (by have := r1.pos; omega) x, rfl⟩
end G

namespace G
open PySem PySem.Spec PyProof.Rows L2
section
variable {X : Cx} {elt tg iter : Expr} {scope : Scope} {own : List (Str × Nat)} {pos : Pos} {wi : TI} {g : TG} {te : L2.St → TE}
theorem lcC_core {pins : List (Addr × Obj)} {s : Shared} {σ : L2.St} {H : Hp} {Q : VK} {pos1 : Pos} {use : Option (Value → Sem Unit)} {Qf : Value → Shared → Prop} (hc : X.calm = true) (hN : X.N.Nodup) (I : Inv X pins σ H s) (hi : PI X tg iter wi) (ok : BlkOk X.N X.env.scope scope own)
    (hg : ∀ (s : Shared) (H : Hp) (C : Addr) (cl : List (Str × Addr)) (fp : List Addr), PG (X.blk s H scope (compEnvC scope cl C X.env) fp) tg g)
    (he : ∀ (pins : List (Addr × Obj)) (σ : L2.St) (s : Shared) (H : Hp) (C : Addr) (cl : List (Str × Addr)) (fp : List Addr), Inv X pins σ H s → (∀ b ∈ fp, FpOk X pins H b) → PE (X.blk s H scope (compEnvC scope cl C X.env) fp) elt (te σ))
    (hs : ∀ x, foldedSetIterable iter X.env x = pure x) (h : tLc wi g tYes (te σ) (own.map (·.2)) σ H Q)
    (hRR : ∀ D C s' m H', Inv X pins σ H' s' → Q (.ref D) H' → s'.heap.Ns C m → FpOk X pins H' C → compPost (model X.prog X.w) X.A X.xe use Qf (.ref D) C (.ok .next) s') :
    wpAny (model X.prog X.w) X.A (comprehension (.ListComp elt [⟨tg, iter, [], 0⟩] scope pos) scope X.env pos1 (newList []) false (eval iter X.env) use) Qf X.xe s := by
  have caught : ∀ y ∈ scope.names, y.2 = .free → ∃ c, X.env.cells.lookup y.1 = some c := fun y hy e => (ok.free y hy e).elim (fun k => I.ok.has _ (.inl k)) fun k => I.ok.has _ (.inr k)
  apply wpAny_comprehension_free (use := use) rfl hs (closure_ok caught) ok.kind (fun y hy e => by rw [ok.uniq y hy, e])
  apply thn (hi.run pins s σ H _ I h)
  intro v s1 h1
  apply thn h1
  rintro itv s2 ⟨it, fp, tn, J, H2, rfl, I2, T, st2, f2, q⟩
  apply wpAny_newObj_type _ (by show 0 ≤ sizeLine; decide)
  apply newEnv_comp
  -- the list that is to be filled
  obtain ⟨W, ⟨m0, w0⟩, turn⟩ := q s2.heap.objs.size (I2.hok.fresh (Nat.le_refl _))
  let L : Addr := s2.heap.objs.size
  let s3 : Shared := { s2 with heap := s2.heap.push { cls := .type "list", data := .seq ([] : List Value).toArray } }
  let H3 : Hp := upd H2 L (.lst [])
  have up : ∀ b o, s2.heap.get? b = some o → s3.heap.get? b = some o := fun b o e => Heap.get?_push_of_some _ e
  have I3 : Inv X pins σ H3 s3 := I2.laid (t' := s2.toks) up (Nat.le_refl _) ⟨Nat.zero_le _, [], 0, .nil, Heap.get?_push_size _ rfl⟩
  have old : ∀ b ∈ fp, b < s2.heap.objs.size := fun b hb => by
    obtain ⟨o, e, _⟩ := T.obj _ _ st2 b hb
    exact Heap.lt_size e
  have z3 : s3.heap.objs.size = s2.heap.objs.size + 1 := Heap.size_push ..
  have f3 : ∀ b ∈ fp, FpOk X pins H3 b := fun b hb => ⟨(upd_ne (Nat.ne_of_lt (old b hb))).trans (f2 b hb).1, (f2 b hb).2⟩
  have I4 := block_start I3 ok hN fun b hb => ⟨f3 b hb, Nat.lt_of_lt_of_le (old b hb) (by rw [z3]; exact Nat.le_succ _)⟩
  let B : Cx := X.blk s3 H3 scope (inEnv X scope s3.heap.objs.size) fp
  have st3 : tn 0 s3.heap := T.keep _ _ _ st2 fun b _ o e => up b o e
  let s4 : Shared := { s3 with heap := pushCells (s3.heap.push { cls := .type "dict", data := .dict #[] }) scope.names }
  have st4 : tn 0 s4.heap := T.keep _ _ _ st3 fun b _ o e => pushCells_keeps _ _ _ _ (Heap.get?_push_of_some _ e)
  replace I4 : Inv B [] (wipe σ (own.map (·.2))) H3 s4 := I4
  have mine : ∀ {σ' : L2.St} {H' : Hp} {s' : Shared}, Inv B [] σ' H' s' → (∀ b ∈ fp, H' b = none) → ∀ b ∈ fp, FpOk B [] H' b := fun J n b hb =>
    ⟨n b hb, (J.ok.exf b hb).1, J.ok.exfs b hb, .inl hb, fun x c e => (J.ok.exf b hb).2 x c e, fun p hp => nomatch (show p ∈ ([] : List (Addr × Obj)) from hp)⟩
  show codeAny _ _ (.compStart _ 0 (.ref it) (.ref L) (inEnv X scope s3.heap.objs.size)) _ s4
  have all : codeAny (model X.prog X.w) X.A (.compLoop (.ListComp elt [⟨tg, iter, [], 0⟩] scope pos) 0 (.ref it) (.ref L) (inEnv X scope s3.heap.objs.size)) (compPost (model X.prog X.w) X.A X.xe use Qf (.ref L) s3.heap.objs.size) s4 := by
    apply compLoop_any (Between B (own.map (·.2)) σ fp tn W) _ m0 ⟨0, H3, I4, st4, fun b hb => (f3 b hb).1, w0⟩
    rintro n s5 ⟨i, H5, I5, st5, n5, w5⟩
    rcases turn i n H5 w5 with ⟨stop, fin⟩ | ⟨go, Nx, hNx, step⟩
    · -- no item left
      apply thnF (T.done B rfl rfl rfl hc i [] s5 _ H5 (fun _ _ => False) I5 (mine I5 n5) st5 stop)
      rintro r s6 ⟨rfl, I6⟩
      have I7 : Inv X pins σ H5 s6 := I3.call' (ch := fp) I6.os I6.base I6.hok I6.bare fun b hb => ⟨(f3 b hb).2.2.2.1, (f3 b hb).2.1, (f3 b hb).2.2.2.2.1, (f3 b hb).2.2.2.2.2⟩
      obtain ⟨m, hn, _⟩ := I6.loc
      exact hRR L _ s6 m H5 I7 fin hn (I3.fpOk (Nat.le_refl _) (show H5 s3.heap.objs.size = none from I6.free))
    · -- one more
      apply thnF (T.item B rfl rfl rfl hc i [] s5 _ H5 (fun _ _ => False) I5 (mine I5 n5) st5 go)
      rintro r s6 ⟨u, rfl, h6⟩
      apply thnF h6
      rintro _ s7 ⟨x, H7, I7, r7, y7, st7, n7⟩
      have J7 := I7.pinned (mine I7 n7) (T.obj _ _ st7)
      apply thnF ((hg s3 H3 _ _ fp).run _ s7 _ H7 x u _ J7 r7 (step x H7 y7))
      rintro _ s8 ⟨σ8, H8, I8, same, q8⟩
      apply thnF ((pts_nil (X := B)).run _ s8 σ8 H8 _ I8 q8)
      rintro b s9 ⟨H9, I9, q9⟩
      cases b with
      | false =>
        rw [if_neg Bool.false_ne_true] at q9 ⊢
        obtain ⟨m', hm, w'⟩ := hNx _ q9
        exact between_next T I9 st7 same w' hm
      | true =>
        rw [if_pos rfl] at q9 ⊢
        apply thnF ((he pins σ s3 H3 s3.heap.objs.size _ fp I3 f3).run _ s9 σ8 H9 _ I9 q9)
        rintro z s10 ⟨yv, H10, I10, r10, acc, hD, hz, nx⟩
        apply app_ok (X := B) I10 hD hz r10
        intro s11 I11
        obtain ⟨m', hm, w'⟩ := hNx _ nx
        exact between_next T I11 st7 same w' hm
  exact codeAny_compStart_list all (T.self X.A 0 _ _ _ st4 all)
/-- x = [..], the element's rule as in pe_lcC -/
theorem ps_setLcC {i : Nat} {y : Str} {py spos : Pos} (hc : X.calm = true) (hN : X.N.Nodup) (hy : X.N[i]? = some y) (hyl : X.env.scope.names.lookup y = some .local)
    (hsw : swapsWith (.ListComp elt [⟨tg, iter, [], 0⟩] scope pos) (some (.Name y py)) spos.line X.env = pure true) (hi : PI X tg iter wi) (ok : BlkOk X.N X.env.scope scope own)
    (hg : ∀ (s : Shared) (H : Hp) (C : Addr) (cl : List (Str × Addr)) (fp : List Addr), PG (X.blk s H scope (compEnvC scope cl C X.env) fp) tg g)
    (he : ∀ (pins : List (Addr × Obj)) (σ : L2.St) (s : Shared) (H : Hp) (C : Addr) (cl : List (Str × Addr)) (fp : List Addr), Inv X pins σ H s → (∀ b ∈ fp, FpOk X pins H b) → PE (X.blk s H scope (compEnvC scope cl C X.env) fp) elt (te σ))
    (hs : ∀ x, foldedSetIterable iter X.env x = pure x := by intro _; rfl) :
    PS X (.Assign [.Name y py] (.ListComp elt [⟨tg, iter, [], 0⟩] scope pos) spos) (tAsg (fun σ H Q => tLc wi g tYes (te σ) (own.map (·.2)) σ H Q) (gName i)) := by
  constructor
  intro pins s σ H D I h
  rw [exec_Assign_Name_used _ _ _ _ hsw]
  refine wpAny_bind (wpAny_standAt (wpAny_bind ?_))
  refine wpAny_bind (thn (lcC_core (te := te) (use := some (assign (.Name y py) X.env)) (pos1 := firstIterPos [⟨tg, iter, [], 0⟩] pos) (Qf := fun _ s' => SP X pins D .next s') (Q := fun x H1 => gName i x σ H1 D.nx) hc hN I hi ok hg he hs h fun L C s' m H' I' q hn f => ?_) fun _ s' hq => wpAny_pure (wpAny_pure hq))
  show wpAny _ _ (assign (.Name y py) X.env (.ref L)) _ _ _
  refine wpAny_assign_Name (store_ok2 (v := V.ref L) I' hN hy (.inl hyl) rfl (fun s2 I2 ⟨a, sb, ha⟩ => ?_) (.inr hyl))
  obtain ⟨f0, f1, f2, f3, f4, f5⟩ := f
  have apart : C ≠ a := ha.elim (fun z => by rw [z]; exact f1) fun z e => f4 y a z e.symm
  exact ⟨m, hn.sameBut sb apart, fun h3 sb3 => ⟨_, H', I2.turned (t' := s2.toks) (fun b o hb e => (sb3.2 b hb).trans e) f0 f1 f3 f4 f5, q⟩⟩
end
end G

namespace G

/-! ### fractions by core's own -/
theorem rq_red (q : Rat) : Red q.num (q.den : Int) := ⟨by have := q.den_pos; omega, q.reduced⟩
theorem rq_ne (q : Rat) : (q.den : Int) ≠ 0 := by have := q.den_pos; omega
theorem rq {n u : Int} (h : u ≠ 0) : rNum n u = (Rat.divInt n u).num ∧ rUnd n u = ((Rat.divInt n u).den : Int) := by
  generalize e : Rat.divInt n u = q
  have e1 := Rat.num_divInt_den q
  rw [← e] at e1
  have e2 := (Rat.divInt_eq_divInt_iff (rq_ne _) h).mp e1
  rw [e] at e2
  have w := rat_same (a := n) (b := u) (c := q.num) (d := q.den) h (rq_ne q) e2.symm
  rw [(rq_red q).same.1, (rq_red q).same.2] at w
  exact w
theorem div_eq (n u : Int) : Rat.divInt n u = (n : Rat) / (u : Rat) := Rat.divInt_eq_div n u
theorem q_eq (q : Rat) : q = (q.num : Rat) / ((q.den : Int) : Rat) := by
  have := Rat.num_divInt_den q
  rw [div_eq] at this
  exact this.symm
theorem qd_ne (q : Rat) : ((q.den : Int) : Rat) ≠ 0 := fun z => rq_ne q (Rat.intCast_eq_zero_iff.mp z)
theorem i_ne {i : Int} (h : i ≠ 0) : (i : Rat) ≠ 0 := fun z => h (Rat.intCast_eq_zero_iff.mp z)
/-- numbers of a fraction: the same fraction, reckoned -/
theorem q_add (x y : Rat) : Rat.divInt (x.num * (y.den : Int) + y.num * (x.den : Int)) ((x.den : Int) * (y.den : Int)) = x + y := by
  have e1 := q_eq x
  have e2 := q_eq y
  have h1 := qd_ne x
  have h2 := qd_ne y
  simp only [div_eq, Rat.intCast_mul, Rat.intCast_add]
  grind
theorem q_sub (x y : Rat) : Rat.divInt (x.num * (y.den : Int) - y.num * (x.den : Int)) ((x.den : Int) * (y.den : Int)) = x - y := by
  have e1 := q_eq x
  have e2 := q_eq y
  have h1 := qd_ne x
  have h2 := qd_ne y
  simp only [div_eq, Rat.intCast_mul, Rat.intCast_sub]
  grind
theorem q_mul (x y : Rat) : Rat.divInt (x.num * y.num) ((x.den : Int) * (y.den : Int)) = x * y := by
  have e1 := q_eq x
  have e2 := q_eq y
  have h1 := qd_ne x
  have h2 := qd_ne y
  simp only [div_eq, Rat.intCast_mul]
  grind
theorem q_div (x y : Rat) (h : y ≠ 0) : Rat.divInt (x.num * (y.den : Int)) ((x.den : Int) * y.num) = x / y := by
  have e1 := q_eq x
  have e2 := q_eq y
  have h1 := qd_ne x
  have h2 := qd_ne y
  have h3 : (y.num : Rat) ≠ 0 := i_ne fun z => h (Rat.num_eq_zero.mp z)
  simp only [div_eq, Rat.intCast_mul]
  grind
theorem num_ne {y : Rat} (h : y ≠ 0) : y.num ≠ 0 := fun z => h (Rat.num_eq_zero.mp z)
/-! ### how long they are -/
structure Sz (k j : Nat) (q : Rat) : Prop where
  num : q.num.natAbs ≤ 10 ^ k
  den : q.den ≤ 10 ^ j
theorem p10 {a b : Nat} (h : a ≤ b) : 10 ^ a ≤ 10 ^ b := Nat.pow_le_pow_right (by decide) h
theorem Sz.mono {k j k' j' : Nat} {q : Rat} (h : Sz k j q) (h1 : k ≤ k') (h2 : j ≤ j') : Sz k' j' q := ⟨Nat.le_trans h.num (p10 h1), Nat.le_trans h.den (p10 h2)⟩
theorem sz_div {n u : Int} {k j : Nat} (h : u ≠ 0) (h1 : n.natAbs ≤ 10 ^ k) (h2 : u.natAbs ≤ 10 ^ j) : Sz k j (Rat.divInt n u) := by
  have e := rq (n := n) h
  have a := num_le (n := n) h
  have b := und_le (n := n) h
  rw [e.1] at a
  rw [e.2] at b
  exact ⟨Nat.le_trans a h1, Nat.le_trans (by omega) h2⟩
theorem mul10 {a b : Int} {k j : Nat} (h1 : a.natAbs ≤ 10 ^ k) (h2 : b.natAbs ≤ 10 ^ j) : (a * b).natAbs ≤ 10 ^ (k + j) := by
  rw [Nat.pow_add]
  exact absmul h1 h2
theorem sub10 {a b : Int} {m : Nat} {k j : Nat} (h1 : a.natAbs ≤ 10 ^ k) (h2 : b.natAbs ≤ 10 ^ j) (g1 : k < m) (g2 : j < m) : (a - b).natAbs ≤ 10 ^ m := by
  obtain ⟨m, rfl⟩ : ∃ i, m = i + 1 := ⟨m - 1, by omega⟩
  have a1 := Nat.le_trans h1 (p10 (show k ≤ m by omega))
  have a2 := Nat.le_trans h2 (p10 (show j ≤ m by omega))
  rw [Nat.pow_succ]
  omega
theorem add10 {a b : Int} {m : Nat} {k j : Nat} (h1 : a.natAbs ≤ 10 ^ k) (h2 : b.natAbs ≤ 10 ^ j) (g1 : k < m) (g2 : j < m) : (a + b).natAbs ≤ 10 ^ m := by
  have := sub10 (b := -b) h1 (by rw [Int.natAbs_neg]; exact h2) g1 g2
  rw [show a + b = a - -b by omega]
  exact this
theorem den10 {k j : Nat} {q : Rat} (h : Sz k j q) : ((q.den : Int)).natAbs ≤ 10 ^ j := h.den
theorem prod_ne (x y : Rat) : (x.den : Int) * (y.den : Int) ≠ 0 := Int.mul_ne_zero (rq_ne x) (rq_ne y)
theorem Sz.add {k j k' j' m i : Nat} {x y : Rat} (a : Sz k j x) (b : Sz k' j' y) (h1 : k + j' < m) (h2 : k' + j < m) (h3 : j + j' ≤ i) : Sz m i (x + y) := by
  rw [← q_add]
  exact (sz_div (j := j + j') (prod_ne x y) (add10 (mul10 a.num (den10 b)) (mul10 b.num (den10 a)) h1 h2) (mul10 (den10 a) (den10 b))).mono (Nat.le_refl _) h3
theorem Sz.sub {k j k' j' m i : Nat} {x y : Rat} (a : Sz k j x) (b : Sz k' j' y) (h1 : k + j' < m) (h2 : k' + j < m) (h3 : j + j' ≤ i) : Sz m i (x - y) := by
  rw [← q_sub]
  exact (sz_div (j := j + j') (prod_ne x y) (sub10 (mul10 a.num (den10 b)) (mul10 b.num (den10 a)) h1 h2) (mul10 (den10 a) (den10 b))).mono (Nat.le_refl _) h3
theorem Sz.mul {k j k' j' m i : Nat} {x y : Rat} (a : Sz k j x) (b : Sz k' j' y) (h1 : k + k' ≤ m) (h2 : j + j' ≤ i) : Sz m i (x * y) := by
  rw [← q_mul]
  exact (sz_div (prod_ne x y) (mul10 a.num b.num) (mul10 (den10 a) (den10 b))).mono h1 h2
theorem Sz.div {k j k' j' m i : Nat} {x y : Rat} (a : Sz k j x) (b : Sz k' j' y) (ne : y ≠ 0) (h1 : k + j' ≤ m) (h2 : j + k' ≤ i) : Sz m i (x / y) := by
  rw [← q_div x y ne]
  exact (sz_div (Int.mul_ne_zero (rq_ne x) (num_ne ne)) (mul10 a.num (den10 b)) (mul10 (den10 a) b.num)).mono h1 h2
/-- a fraction that is long at most so -/
abbrev Wq (q : Rat) : Prop := Sz 300 300 q
def Wd (i : Int) : Prop := i.natAbs < 2 ^ 2000
theorem ten600 : 10 ^ 600 < 2 ^ 2000 := by decide +kernel
theorem Sz.wn {q : Rat} (h : Wq q) : Wd q.num := Nat.lt_of_le_of_lt (Nat.le_trans h.num (p10 (by decide))) ten600
theorem Sz.wd {q : Rat} (h : Wq q) : Wd (q.den : Int) := Nat.lt_of_le_of_lt (Nat.le_trans h.den (p10 (by decide))) ten600
theorem Sz.w {k j : Nat} {q : Rat} (h : Sz k j q) (h1 : k ≤ 300) (h2 : j ≤ 300) : Wq q := h.mono h1 h2
theorem wd_of {i : Int} {k : Nat} (h : i.natAbs ≤ 10 ^ k) (hk : k ≤ 600) : Wd i := Nat.lt_of_le_of_lt (Nat.le_trans h (p10 hk)) ten600
/-! ### dots in least terms -/
structure Can (x y d : Int) (X Y : Rat) : Prop where
  pos : 0 < d
  one : Nat.gcd (Nat.gcd x.natAbs y.natAbs) d.natAbs = 1
  hx : X = Rat.divInt x d
  hy : Y = Rat.divInt y d
theorem Can.uniq {x y d x' y' d' : Int} {X Y : Rat} (a : Can x y d X Y) (b : Can x' y' d' X Y) : x = x' ∧ y = y' ∧ d = d' := by
  have a0 : d ≠ 0 := by have := a.pos; omega
  have b0 : d' ≠ 0 := by have := b.pos; omega
  have e1 := (Rat.divInt_eq_divInt_iff a0 b0).mp (a.hx.symm.trans b.hx)
  have e2 := (Rat.divInt_eq_divInt_iff a0 b0).mp (a.hy.symm.trans b.hy)
  have dv : ∀ {x y d x' y' d' : Int}, x * d' = x' * d → y * d' = y' * d → Nat.gcd (Nat.gcd x.natAbs y.natAbs) d.natAbs = 1 → d.natAbs ∣ d'.natAbs := by
    intro x y d x' y' d' e1 e2 g
    have c1 : d.natAbs ∣ x.natAbs * d'.natAbs := by
      rw [← Int.natAbs_mul, e1, Int.natAbs_mul]
      exact Nat.dvd_mul_left _ _
    have c2 : d.natAbs ∣ y.natAbs * d'.natAbs := by
      rw [← Int.natAbs_mul, e2, Int.natAbs_mul]
      exact Nat.dvd_mul_left _ _
    have c3 : d.natAbs ∣ Nat.gcd x.natAbs y.natAbs * d'.natAbs := by
      rw [← Nat.gcd_mul_right]
      exact Nat.dvd_gcd c1 c2
    exact Nat.Coprime.dvd_of_dvd_mul_left (m := Nat.gcd x.natAbs y.natAbs) (Nat.Coprime.symm g) c3
  have d1 := dv e1 e2 a.one
  have d2 := dv e1.symm e2.symm b.one
  have ed : d = d' := by
    have := Nat.dvd_antisymm d1 d2
    have := a.pos
    have := b.pos
    omega
  subst ed
  exact ⟨Int.eq_of_mul_eq_mul_right a0 e1, Int.eq_of_mul_eq_mul_right a0 e2, rfl⟩
/-- what the three are divided by -/
def byOf3 (x y d : Int) : Int := if d < 0 then -((Nat.gcd (Nat.gcd x.natAbs y.natAbs) d.natAbs : Nat) : Int) else ((Nat.gcd (Nat.gcd x.natAbs y.natAbs) d.natAbs : Nat) : Int)
theorem byOf3_ne {x y d : Int} (h : d ≠ 0) : byOf3 x y d ≠ 0 := by
  have : 0 < Nat.gcd (Nat.gcd x.natAbs y.natAbs) d.natAbs := Nat.gcd_pos_of_pos_right _ (by omega)
  unfold byOf3
  split <;> omega
theorem byOf3_abs {x y d : Int} : (byOf3 x y d).natAbs = Nat.gcd (Nat.gcd x.natAbs y.natAbs) d.natAbs := by
  unfold byOf3
  split <;> omega
theorem byOf3_le {x y d : Int} (h : d ≠ 0) : (byOf3 x y d).natAbs ≤ d.natAbs := by
  rw [byOf3_abs]
  exact Nat.le_of_dvd (by omega) (Nat.gcd_dvd_right _ _)
theorem can_of {x y d : Int} (h : d ≠ 0) : Can (x.fdiv (byOf3 x y d)) (y.fdiv (byOf3 x y d)) (d.fdiv (byOf3 x y d)) (Rat.divInt x d) (Rat.divInt y d) := by
  have g0 := byOf3_ne (x := x) (y := y) h
  have v1 : byOf3 x y d ∣ x := by
    rw [← Int.natAbs_dvd_natAbs, byOf3_abs]
    exact Nat.dvd_trans (Nat.gcd_dvd_left _ _) (Nat.gcd_dvd_left _ _)
  have v2 : byOf3 x y d ∣ y := by
    rw [← Int.natAbs_dvd_natAbs, byOf3_abs]
    exact Nat.dvd_trans (Nat.gcd_dvd_left _ _) (Nat.gcd_dvd_right _ _)
  have v3 : byOf3 x y d ∣ d := by
    rw [← Int.natAbs_dvd_natAbs, byOf3_abs]
    exact Nat.gcd_dvd_right _ _
  have m1 := fd_of g0 v1
  have m2 := fd_of g0 v2
  have m3 := fd_of g0 v3
  have ha := byOf3_abs (x := x) (y := y) (d := d)
  have hs : d < 0 → byOf3 x y d < 0 := fun z => by
    have := byOf3_ne (x := x) (y := y) h
    unfold byOf3 at this ⊢
    rw [if_pos z] at this ⊢
    omega
  have hs' : ¬ d < 0 → 0 < byOf3 x y d := fun z => by
    have := byOf3_ne (x := x) (y := y) h
    unfold byOf3 at this ⊢
    rw [if_neg z] at this ⊢
    omega
  generalize byOf3 x y d = g at *
  generalize x.fdiv g = x' at *
  generalize y.fdiv g = y' at *
  generalize d.fdiv g = d' at *
  have d0 : d' ≠ 0 := fun z => h (by rw [← m3, z, Int.mul_zero])
  constructor
  · by_cases hd : d < 0
    · rcases Int.lt_trichotomy d' 0 with z | z | z
      · have := Int.mul_pos_of_neg_of_neg (hs hd) z
        omega
      · exact absurd z d0
      · exact z
    · rcases Int.lt_trichotomy d' 0 with z | z | z
      · have := Int.mul_neg_of_pos_of_neg (hs' hd) z
        omega
      · exact absurd z d0
      · exact z
  · have e : Nat.gcd (Nat.gcd x.natAbs y.natAbs) d.natAbs = g.natAbs * Nat.gcd (Nat.gcd x'.natAbs y'.natAbs) d'.natAbs := by
      rw [← m1, ← m2, ← m3, Int.natAbs_mul, Int.natAbs_mul, Int.natAbs_mul, Nat.gcd_mul_left, Nat.gcd_mul_left]
    rw [← ha] at e
    exact Nat.eq_of_mul_eq_mul_left (show 0 < g.natAbs by omega) (by omega)
  · refine (Rat.divInt_eq_divInt_iff h d0).mpr ?_
    rw [← m1, ← m3]
    grind
  · refine (Rat.divInt_eq_divInt_iff h d0).mpr ?_
    rw [← m2, ← m3]
    grind
theorem fd_le {x g : Int} (h : g ≠ 0) (v : g ∣ x) : (x.fdiv g).natAbs ≤ x.natAbs := by
  have := congrArg Int.natAbs (fd_of h v)
  rw [Int.natAbs_mul] at this
  rw [← this]
  exact Nat.le_mul_of_pos_left _ (by omega)
/-- how long the three are -/
theorem Can.sz {x y d : Int} {X Y : Rat} (c : Can x y d X Y) {k j : Nat} (hX : Sz k j X) (hY : Sz k j Y) : x.natAbs ≤ 10 ^ (k + j) ∧ y.natAbs ≤ 10 ^ (k + j) ∧ d.natAbs ≤ 10 ^ (j + j) := by
  have h := prod_ne X Y
  have z := can_of (x := X.num * (Y.den : Int)) (y := Y.num * (X.den : Int)) h
  have e1 : Rat.divInt (X.num * (Y.den : Int)) ((X.den : Int) * (Y.den : Int)) = X := by
    have e1 := q_eq X
    have h1 := qd_ne X
    have h2 := qd_ne Y
    simp only [div_eq, Rat.intCast_mul]
    grind
  have e2 : Rat.divInt (Y.num * (X.den : Int)) ((X.den : Int) * (Y.den : Int)) = Y := by
    have e1 := q_eq Y
    have h1 := qd_ne X
    have h2 := qd_ne Y
    simp only [div_eq, Rat.intCast_mul]
    grind
  rw [e1, e2] at z
  have g0 := byOf3_ne (x := X.num * (Y.den : Int)) (y := Y.num * (X.den : Int)) h
  obtain ⟨u1, u2, u3⟩ := c.uniq z
  have v1 : byOf3 (X.num * (Y.den : Int)) (Y.num * (X.den : Int)) ((X.den : Int) * (Y.den : Int)) ∣ (X.num * (Y.den : Int)) := by
    rw [← Int.natAbs_dvd_natAbs, byOf3_abs]
    exact Nat.dvd_trans (Nat.gcd_dvd_left _ _) (Nat.gcd_dvd_left _ _)
  have v2 : byOf3 (X.num * (Y.den : Int)) (Y.num * (X.den : Int)) ((X.den : Int) * (Y.den : Int)) ∣ (Y.num * (X.den : Int)) := by
    rw [← Int.natAbs_dvd_natAbs, byOf3_abs]
    exact Nat.dvd_trans (Nat.gcd_dvd_left _ _) (Nat.gcd_dvd_right _ _)
  have v3 : byOf3 (X.num * (Y.den : Int)) (Y.num * (X.den : Int)) ((X.den : Int) * (Y.den : Int)) ∣ ((X.den : Int) * (Y.den : Int)) := by
    rw [← Int.natAbs_dvd_natAbs, byOf3_abs]
    exact Nat.gcd_dvd_right _ _
  have l1 := fd_le g0 v1
  have l2 := fd_le g0 v2
  have l3 := fd_le g0 v3
  rw [← u1] at l1
  rw [← u2] at l2
  rw [← u3] at l3
  exact ⟨Nat.le_trans l1 (mul10 hX.num (den10 hY)), Nat.le_trans l2 (mul10 hY.num (den10 hX)), Nat.le_trans l3 (mul10 (den10 hX) (den10 hY))⟩
theorem Can.ne {x y d : Int} {X Y : Rat} (c : Can x y d X Y) : d ≠ 0 := by have := c.pos; omega
/-- the same dot, the same three -/
theorem Can.iff {x y d x' y' d' : Int} {X Y X' Y' : Rat} (a : Can x y d X Y) (b : Can x' y' d' X' Y') : (x = x' ∧ y = y' ∧ d = d') ↔ (X = X' ∧ Y = Y') := by
  constructor
  · rintro ⟨rfl, rfl, rfl⟩
    exact ⟨a.hx.trans b.hx.symm, a.hy.trans b.hy.symm⟩
  · rintro ⟨rfl, rfl⟩
    exact a.uniq b
end G

namespace G
theorem cross_gen {a b c d u v w t : Rat} (hu : u ≠ 0) (hv : v ≠ 0) (hw : w ≠ 0) (ht : t ≠ 0) : (a * d * (v * w) - b * c * (u * t)) / (u * t * (v * w)) = a / u * (d / t) - b / v * (c / w) := by
  have e1 : a = a / u * u := by grind
  have e2 : b = b / v * v := by grind
  have e3 : c = c / w * w := by grind
  have e4 : d = d / t * t := by grind
  generalize a / u = a' at *
  generalize b / v = b' at *
  generalize c / w = c' at *
  generalize d / t = d' at *
  subst e1 e2 e3 e4
  grind
theorem along_gen {x d A u s r : Rat} (hd : d ≠ 0) (hu : u ≠ 0) (hr : r ≠ 0) : (x * u * r + A * s * d) / (d * u * r) = x / d + A / u * (s / r) := by
  have e1 : x = x / d * d := by grind
  have e2 : A = A / u * u := by grind
  have e3 : s = s / r * r := by grind
  generalize x / d = x' at *
  generalize A / u = A' at *
  generalize s / r = s' at *
  subst e1 e2 e3
  grind
theorem beside_gen {x1 x2 x3 d1 d2 d3 : Rat} (h1 : d1 ≠ 0) (h2 : d2 ≠ 0) (h3 : d3 ≠ 0) : (x3 * (d1 * d2) + (x2 * d1 - x1 * d2) * d3) / (d1 * d2 * d3) = x3 / d3 + (x2 / d2 - x1 / d1) := by
  have e1 : x1 = x1 / d1 * d1 := by grind
  have e2 : x2 = x2 / d2 * d2 := by grind
  have e3 : x3 = x3 / d3 * d3 := by grind
  generalize x1 / d1 = x' at *
  generalize x2 / d2 = A' at *
  generalize x3 / d3 = s' at *
  subst e1 e2 e3
  grind
end G

namespace My
open PySem PySem.Spec PyProof.Rows L2 G
def topS (i : Nat) : Stmt := PySem.Challenge.pw_seenabout_k05_lines.main.body.getD i (.Pass ⟨0, 0, 0, 0⟩)
abbrev s__law_pot : Stmt := topS 26
theorem sc__law_pot : FnScope ["_law_script", "_law_k", "_law_cell", "_law_own", "_law_small"] ["_law_script", "_law_k"] (defScope s__law_pot) := ⟨rfl, rfl, rfl, by decide +kernel, rfl, by decide +kernel, by decide +kernel⟩

abbrev s__law_take : Stmt := topS 27
theorem sc__law_take : FnScope ["_law_pot_here", "_law_upto", "_law_digit", "_law_prime", "_law_blend"] ["_law_pot_here", "_law_upto"] (defScope s__law_take) := ⟨rfl, rfl, rfl, by decide +kernel, rfl, by decide +kernel, by decide +kernel⟩

abbrev s__law_of : Stmt := topS 28
theorem sc__law_of : FnScope ["_law_pot_here", "_law_some"] ["_law_pot_here", "_law_some"] (defScope s__law_of) := ⟨rfl, rfl, rfl, by decide +kernel, rfl, by decide +kernel, by decide +kernel⟩

abbrev s__law_places : Stmt := topS 29
theorem sc__law_places : FnScope ["_law_script", "_law_most"] ["_law_script", "_law_most"] (defScope s__law_places) := ⟨rfl, rfl, rfl, by decide +kernel, rfl, by decide +kernel, by decide +kernel⟩

structure Ad where
  init : Addr
  AboutError : Addr
  BadPoint : Addr
  Off : Addr
  Ratio : Addr
  Point : Addr
  Line : Addr
  _law_pot : Addr
  _law_take : Addr
  _law_of : Addr
  _law_places : Addr
  _law_told : Addr
  _law_odd : Addr
  _law_common : Addr
  _law_pair : Addr
  _law_spot : Addr
  _law_made_point : Addr
  _law_spot_of : Addr
  _law_pair_of : Addr
  _law_spot_near : Addr
  _law_other_spot : Addr
  _law_difference : Addr
  _law_cross_of : Addr
  _law_along : Addr
  _law_is_height : Addr
  _law_meets : Addr
  _law_beside : Addr
  _law_right : Addr
  _law_odd_right : Addr
  law : Addr
  is_integer : Addr
  is_number : Addr
  as_ratio : Addr
  difference : Addr
  check_point : Addr
  Ratio___init__ : Addr
  Ratio_divided : Addr
  Ratio___add__ : Addr
  Ratio___radd__ : Addr
  Ratio___sub__ : Addr
  Ratio___rsub__ : Addr
  Ratio___mul__ : Addr
  Ratio___rmul__ : Addr
  Ratio___eq__ : Addr
  Point___init__ : Addr
  Point_towards : Addr
  Point___sub__ : Addr
  Point___eq__ : Addr
  Line___init__ : Addr
  Line_height : Addr
  Line_share : Addr
  Line___and__ : Addr
  Line___eq__ : Addr
/-- what isinstance asks of a class of plain instances -/
structure RI (K : PySem.W.Frag) (C : Addr) : Prop where
  ca : PySem.W.findIn K (.ref C) "__class__" = some (some (.builtin "object.__class__"))
  cn : PySem.W.specialIn K (.builtin "object.__class__") "__get__" = some (some (.builtin "getset_descriptor.__get__"))
  ct : PySem.W.takesIn K (.builtin "object.__class__") = some true
  cm : PySem.W.mroIn K C (.type "object") = some true
  ki : PySem.W.kitOne K (.ref C) (.type "int") = some false
  kb : PySem.W.kitOne K (.ref C) (.type "bool") = some false
  ks : PySem.W.kitOne K (.ref C) (.ref C) = some true
  kt : ∀ t ∈ (["int", "bool", "NoneType", "str", "tuple", "list", "dict"] : List String), PySem.W.kitOne K (.type t) (.ref C) = some false
/-- what the top has written -/
structure Txt (K : PySem.W.Frag) (mg : Str → Option Value) (a : Ad) : Prop where
  n_abs : mg "abs" = none
  n_all : mg "all" = none
  n_bool : mg "bool" = none
  n_int : mg "int" = none
  n_isinstance : mg "isinstance" = none
  n_len : mg "len" = none
  n_list : mg "list" = none
  n_max : mg "max" = none
  n_min : mg "min" = none
  n_range : mg "range" = none
  n_repr : mg "repr" = none
  g_AboutError : mg "AboutError" = some (.ref a.AboutError)
  g_BadPoint : mg "BadPoint" = some (.ref a.BadPoint)
  c_BadPoint : EC K a.BadPoint
  i_BadPoint : PySem.W.findIn K (.ref a.BadPoint) "__init__" = some (some (.ref a.init))
  x_BadPoint : PySem.W.exmOne K (.ref a.BadPoint) (.ref a.AboutError) = some true
  t_BadPoint : PySem.W.kitOne K (.ref a.BadPoint) (.ref a.BadPoint) = some true
  g_Off : mg "Off" = some (.ref a.Off)
  c_Off : EC K a.Off
  i_Off : PySem.W.findIn K (.ref a.Off) "__init__" = some (some (.ref a.init))
  x_Off : PySem.W.exmOne K (.ref a.Off) (.ref a.AboutError) = some true
  t_Off : PySem.W.kitOne K (.ref a.Off) (.ref a.Off) = some true
  tI : PySem.W.typeIn K (.ref a.init) = some (.type "function")
  ek : EK K
  eqc : EqC K a.Ratio a.Ratio___eq__
  eqp : EqC K a.Point a.Point___eq__
  eql : EqC K a.Line a.Line___eq__
  g_gcd : mg "gcd" = some (.builtin "math.gcd")
  g__law_pot : mg "_law_pot" = some (.ref a._law_pot)
  k__law_pot : PySem.W.keepIn K (.ref a._law_pot) = true
  g__law_take : mg "_law_take" = some (.ref a._law_take)
  k__law_take : PySem.W.keepIn K (.ref a._law_take) = true
  g__law_of : mg "_law_of" = some (.ref a._law_of)
  k__law_of : PySem.W.keepIn K (.ref a._law_of) = true
  g__law_places : mg "_law_places" = some (.ref a._law_places)
  k__law_places : PySem.W.keepIn K (.ref a._law_places) = true
  g__law_told : mg "_law_told" = some (.ref a._law_told)
  k__law_told : PySem.W.keepIn K (.ref a._law_told) = true
  g__law_odd : mg "_law_odd" = some (.ref a._law_odd)
  k__law_odd : PySem.W.keepIn K (.ref a._law_odd) = true
  g__law_common : mg "_law_common" = some (.ref a._law_common)
  k__law_common : PySem.W.keepIn K (.ref a._law_common) = true
  g__law_pair : mg "_law_pair" = some (.ref a._law_pair)
  k__law_pair : PySem.W.keepIn K (.ref a._law_pair) = true
  g__law_spot : mg "_law_spot" = some (.ref a._law_spot)
  k__law_spot : PySem.W.keepIn K (.ref a._law_spot) = true
  g__law_made_point : mg "_law_made_point" = some (.ref a._law_made_point)
  k__law_made_point : PySem.W.keepIn K (.ref a._law_made_point) = true
  g__law_spot_of : mg "_law_spot_of" = some (.ref a._law_spot_of)
  k__law_spot_of : PySem.W.keepIn K (.ref a._law_spot_of) = true
  g__law_pair_of : mg "_law_pair_of" = some (.ref a._law_pair_of)
  k__law_pair_of : PySem.W.keepIn K (.ref a._law_pair_of) = true
  g__law_spot_near : mg "_law_spot_near" = some (.ref a._law_spot_near)
  k__law_spot_near : PySem.W.keepIn K (.ref a._law_spot_near) = true
  g__law_other_spot : mg "_law_other_spot" = some (.ref a._law_other_spot)
  k__law_other_spot : PySem.W.keepIn K (.ref a._law_other_spot) = true
  g__law_difference : mg "_law_difference" = some (.ref a._law_difference)
  k__law_difference : PySem.W.keepIn K (.ref a._law_difference) = true
  g__law_cross_of : mg "_law_cross_of" = some (.ref a._law_cross_of)
  k__law_cross_of : PySem.W.keepIn K (.ref a._law_cross_of) = true
  g__law_along : mg "_law_along" = some (.ref a._law_along)
  k__law_along : PySem.W.keepIn K (.ref a._law_along) = true
  g__law_is_height : mg "_law_is_height" = some (.ref a._law_is_height)
  k__law_is_height : PySem.W.keepIn K (.ref a._law_is_height) = true
  g__law_meets : mg "_law_meets" = some (.ref a._law_meets)
  k__law_meets : PySem.W.keepIn K (.ref a._law_meets) = true
  g__law_beside : mg "_law_beside" = some (.ref a._law_beside)
  k__law_beside : PySem.W.keepIn K (.ref a._law_beside) = true
  g__law_right : mg "_law_right" = some (.ref a._law_right)
  k__law_right : PySem.W.keepIn K (.ref a._law_right) = true
  g__law_odd_right : mg "_law_odd_right" = some (.ref a._law_odd_right)
  k__law_odd_right : PySem.W.keepIn K (.ref a._law_odd_right) = true
  g_law : mg "law" = some (.ref a.law)
  k_law : PySem.W.keepIn K (.ref a.law) = true
  g_is_integer : mg "is_integer" = some (.ref a.is_integer)
  k_is_integer : PySem.W.keepIn K (.ref a.is_integer) = true
  g_is_number : mg "is_number" = some (.ref a.is_number)
  k_is_number : PySem.W.keepIn K (.ref a.is_number) = true
  g_as_ratio : mg "as_ratio" = some (.ref a.as_ratio)
  k_as_ratio : PySem.W.keepIn K (.ref a.as_ratio) = true
  g_difference : mg "difference" = some (.ref a.difference)
  k_difference : PySem.W.keepIn K (.ref a.difference) = true
  g_check_point : mg "check_point" = some (.ref a.check_point)
  k_check_point : PySem.W.keepIn K (.ref a.check_point) = true
  g_Ratio : mg "Ratio" = some (.ref a.Ratio)
  m_Ratio : Mk K a.Ratio a.Ratio___init__
  cl : Cls K a.Ratio
  nN : NoAttr K a.Ratio "number"
  nU : NoAttr K a.Ratio "under"
  ri : RI K a.Ratio
  o_add : OpC K a.Ratio a.Ratio___add__ a.Ratio___radd__ "add"
  o_sub : OpC K a.Ratio a.Ratio___sub__ a.Ratio___rsub__ "sub"
  o_mul : OpC K a.Ratio a.Ratio___mul__ a.Ratio___rmul__ "mul"
  dv : Meth K a.Ratio "divided" a.Ratio_divided
  g_Point : mg "Point" = some (.ref a.Point)
  m_Point : Mk K a.Point a.Point___init__
  clP : Cls K a.Point
  nX : NoAttr K a.Point "x"
  nY : NoAttr K a.Point "y"
  riP : RI K a.Point
  tw : Meth K a.Point "towards" a.Point_towards
  oS : OpS K a.Point a.Point___sub__ "sub"
  g_Line : mg "Line" = some (.ref a.Line)
  m_Line : Mk K a.Line a.Line___init__
  clL : Cls K a.Line
  nA : NoAttr K a.Line "one"
  nB : NoAttr K a.Line "other"
  riL : RI K a.Line
  rPL : PySem.W.kitOne K (.ref a.Point) (.ref a.Line) = some false
  nLP : PySem.W.notFirst K a.Line (.ref a.Point) = true
  hg : Meth K a.Line "height" a.Line_height
  sh : Meth K a.Line "share" a.Line_share
  oA : OpS K a.Line a.Line___and__ "and"

/-! ### the pot: three ints, of which the last counts -/
def PotAt (H : Hp) (p : Addr) (n : Nat) : Prop := ∃ a b c : Int, H p = some (.lst [.int a, .int b, .int c]) ∧ (0 ≤ a ∧ a < 10 ^ 300) ∧ (0 ≤ b ∧ b < 2 ^ 61) ∧ (0 ≤ c ∧ c ≤ (n : Int))
/-- the heap without the pot -/
noncomputable abbrev wo (p : Addr) (H : Hp) : Hp := mask (fun b => b = p) H
theorem wo_ne {p b : Addr} {H : Hp} (h : b ≠ p) : wo p H b = H b := mask_out h
theorem wo_same {p : Addr} {H : Hp} : wo p H p = none := mask_in rfl
theorem wo_le (p : Addr) (H : Hp) : Same (wo p H) H := mask_le _ _
theorem wo_upd {p : Addr} {H : Hp} {o : HO} : wo p (upd H p o) = wo p H := by
  funext b
  by_cases e : b = p
  · rw [e, wo_same, wo_same]
  · rw [wo_ne e, wo_ne e, upd_ne e]
/-- all but the pot stays, the pot is one still -/
structure Go (p : Addr) (n : Nat) (H H' : Hp) : Prop where
  keep : Same (wo p H) (wo p H')
  pot : PotAt H' p n
theorem Go.trans {p : Addr} {m n : Nat} {H H1 H2 : Hp} (a : Go p m H H1) (b : Go p n H1 H2) : Go p n H H2 := ⟨a.keep.trans b.keep, b.pot⟩
theorem Go.at {p : Addr} {n : Nat} {H H' : Hp} (g : Go p n H H') {b : Addr} {o : HO} (h : H b = some o) (hb : b ≠ p) : H' b = some o := wo_le p H' _ _ (g.keep b o (by rw [wo_ne hb]; exact h))

def spPot (K : PySem.W.Frag) : Sp := fun vs H Q _ => ∃ (s : Addr) (ns : List Int) (k : Int), vs = [.ref s, .int k] ∧ SqL K H s (ns.map V.int) ∧ ns.length ≤ 63 ∧ 0 ≤ k ∧ k ≤ 100 ∧
  ∀ p H', H p = none → Same H H' → PotAt H' p 0 → Q (.ref p) H'
def spTake : Sp := fun vs H Q _ => ∃ (p : Addr) (u : Int) (n : Nat), vs = [.ref p, .int u] ∧ PotAt H p n ∧ n ≤ 100000 ∧ 1 ≤ u ∧ u ≤ 10 ^ 8 ∧
  ∀ d H', 0 ≤ d → d < u → Go p (n + 1) H H' → Q (.int d) H'
def spOf : Sp := fun vs H Q _ => ∃ (p s : Addr) (n : Nat) (xs : List V), vs = [.ref p, .ref s] ∧ s ≠ p ∧ PotAt H p n ∧ n ≤ 100000 ∧ H s = some (.lst xs) ∧ xs ≠ [] ∧ xs.length ≤ 10 ^ 6 ∧
  ∀ x H', x ∈ xs → Go p (n + 1) H H' → Q x H'
def spPlaces (K : PySem.W.Frag) : Sp := fun vs H Q _ => ∃ (s : Addr) (ns : List Int) (m : Int), vs = [.ref s, .int m] ∧ SqL K H s (ns.map V.int) ∧ ns.length ≤ 63 ∧ 1 ≤ m ∧ m ≤ 100 ∧
  ∀ (l : Addr) (n : Nat) (H' : Hp), H l = none → Same H H' → (n : Int) ≤ m → H' l = some (.lst (rgV 0 n)) → Q (.ref l) H'
/-- what is kept but for the pot keeps data that lie elsewhere -/
theorem Go.mask {p : Addr} {n : Nat} {H H' : Hp} {N : Addr → Prop} (g : Go p n H H') (hp : N p) : Same (mask N H) (mask N H') := fun b o h => by
  obtain ⟨nb, e⟩ := mask_some h
  have hb : b ≠ p := fun z => nb (by rw [z]; exact hp)
  rw [mask_out nb]
  exact g.at e hb
theorem Go.is {p : Addr} {n : Nat} {H H' : Hp} {N : Addr → Prop} {G : PyData → Prop} {v : V} (g : Go p n H H') (hp : N p) (x : Is N H G v) : Is N H' G v := let ⟨d, a, y⟩ := x; ⟨d, a.same (g.mask hp), y⟩
theorem Go.of {p : Addr} {n : Nat} {H H1 H' : Hp} (S : Same H H1) (g : Go p n H1 H') : Go p n H H' := ⟨(mask_mono S).trans g.keep, g.pot⟩
theorem PotAt.same {p : Addr} {n : Nat} {H H' : Hp} (S : Same H H') (x : PotAt H p n) : PotAt H' p n := let ⟨a, b, c, h, r⟩ := x; ⟨a, b, c, S _ _ h, r⟩
theorem PotAt.mono {p : Addr} {m n : Nat} {H : Hp} (x : PotAt H p m) (h : m ≤ n) : PotAt H p n := let ⟨a, b, c, e, r1, r2, r3, r4⟩ := x; ⟨a, b, c, e, r1, r2, r3, by omega⟩
theorem PotAt.has {p : Addr} {n : Nat} {H : Hp} (x : PotAt H p n) : H p ≠ none := by obtain ⟨a, b, c, e, _⟩ := x; rw [e]; simp
theorem Go.mono {p : Addr} {m n : Nat} {H H' : Hp} (g : Go p m H H') (h : m ≤ n) : Go p n H H' := ⟨g.keep, g.pot.mono h⟩

/-- any of the odd values: new data -/
def spOdd : Sp := fun vs H Q _ => ∃ (p : Addr) (n : Nat), vs = [.ref p] ∧ PotAt H p n ∧ n ≤ 100000 ∧ ∀ v H', (∀ N, Tr N H → Is N H' (Gd 60 4) v) → Go p (n + 1) H H' → Q v H'
section
variable {P : Program} {w : World} {K : PySem.W.Frag} {mg : Str → Option Value} {base : Heap} {a : Ad}

theorem pow300 : ((10 : Int) ^ (60 : Int).toNat) ^ (5 : Int).toNat = 10 ^ 300 := by
  show ((10 : Int) ^ 60) ^ 5 = 10 ^ 300
  rw [← Int.pow_mul]
theorem cpow1 : CPowW 10 60 := ⟨by decide, by decide, by decide +kernel⟩
theorem cpow2 : CPowW ((10 : Int) ^ (60 : Int).toNat) 5 := ⟨by decide +kernel, by decide, by decide +kernel⟩
theorem cpow3 : CPowW 10 18 := ⟨by decide, by decide, by decide +kernel⟩
theorem mod300 (x : Int) : 0 ≤ x.fmod (10 ^ 300) ∧ x.fmod (10 ^ 300) < 10 ^ 300 := by
  have h : (0 : Int) < 10 ^ 300 := by decide +kernel
  exact ⟨Int.fmod_nonneg_of_pos _ h, Int.fmod_lt_of_pos _ h⟩
theorem cpow_of {i : Int} (h0 : 2 ≤ i) (h : i < 2 ^ 100) : CPowW i 3 := by
  refine ⟨h0, by decide, ?_⟩
  have h1 : i.natAbs < 2 ^ 100 := by omega
  have h2 := PySem.Flt.log2_lt_of (by decide) h1
  have h3 : Builtin.Int.intBits i ≤ i.natAbs.log2 + 1 := by
    unfold Builtin.Int.intBits
    split <;> omega
  omega
theorem b01 (b : Bool) : -(2 ^ 64) < (if b = true then (1 : Int) else 0) ∧ (if b = true then (1 : Int) else 0) < 2 ^ 64 := by cases b <;> decide
theorem own01 {x m : Int} (h : 0 ≤ x ∧ x < m) (b : Bool) : 0 ≤ x * (if b = true then (1 : Int) else 0) ∧ x * (if b = true then (1 : Int) else 0) < m := by
  cases b
  · simp; omega
  · simp; omega
theorem fm {u : Int} (x : Int) (h : 0 < u) : 0 ≤ x.fmod u ∧ x.fmod u < u := ⟨Int.fmod_nonneg_of_pos _ h, Int.fmod_lt_of_pos _ h⟩
theorem ok__law_pot {fd : FuncData} (F : Fun K "_law_pot" "_law_pot" s__law_pot a._law_pot fd) (T : Txt K mg a) :
    Fn P w K mg base CX0 1 a._law_pot fd ["_law_script", "_law_k"] (spPot K) := by
  refine ok F sc__law_pot (fun vs H Q E h => ?len) (fun cdv A outer s H vs Q E hq hr h => ⟨_,
      (Evl.pss_cut (ps_set (i := 2) sc__law_pot.nd rfl (Or.inl rfl) (pe_ifExp (pt_cmpR op_lt (pv 1) (pe_callB call_len_seq (by rfl) T.n_len (by decide +kernel) (pa_cons (pv 0) pa_nil)) (nomark _)) (pe_ix ix_list (pv 0) (pv 1) (fun _ _ => rfl)) (pe_op op_add (pe_op op_mul pe_int (pv 1)) pe_int)))
      (pss_cons (ps_set (i := 3) sc__law_pot.nd rfl (Or.inl rfl) (pe_op op_mul (pe_op op_modN (pe_callTy call_int1 (by rfl) T.n_int (by decide +kernel) (pa_cons (pe_callB call_abs (by rfl) T.n_abs (by decide +kernel) (pa_cons (pv 2) pa_nil)) pa_nil)) (pe_op op_powW (pe_op op_powW pe_int pe_int) pe_int)) (pe_callTy call_int1 (by rfl) T.n_int (by decide +kernel) (pa_cons (pe_cmpR op_ge (pe_callB call_abs (by rfl) T.n_abs (by decide +kernel) (pa_cons (pv 2) pa_nil)) (pe_op op_powW pe_int pe_int) (nomark _)) pa_nil))))
      (pss_cons (ps_set (i := 4) sc__law_pot.nd rfl (Or.inl rfl) (pe_op op_modN (pe_callTy call_int1 (by rfl) T.n_int (by decide +kernel) (pa_cons (pv 2) pa_nil)) pe_int))
      (pss_one (ps_ret (pe_lstS (pa_cons (pv 3) (pa_cons (pe_op op_modN (pe_callTy call_int1 (by rfl) T.n_int (by decide +kernel) (pa_cons (pe_op op_add (pe_op op_add (pe_op op_mul (pv 4) pe_int) (pe_op op_mul (pe_op op_mul pe_int (pv 1)) (pv 1))) pe_int) pa_nil)) pe_int) (pa_cons pe_int pa_nil))))))))), ?body⟩)
  case len => obtain ⟨s, ns, k, rfl, _⟩ := h; rfl
  case body =>
    obtain ⟨s, ns, k, rfl, hs, hl, hk0, hk1, q⟩ := h
    refine ⟨fun σ' H' => ∃ c : Int, σ' = [some (.ref s), some (.int k), some (.int c), none, none] ∧ H' = H, ?first, ?rest⟩
    case first =>
      refine ⟨_, rfl, _, rfl, _, _, rfl, .inl hs, _, _, rfl, rfl, _, rfl, ite2 (fun c => ?_) (fun c => ?_)⟩
      · have hk : k.toNat < ns.length := by
          have := of_decide_eq_true c
          rw [List.length_map] at this
          omega
        refine ⟨_, rfl, _, rfl, _, _, _, _, rfl, rfl, hs, at_of (j := k.toNat) (v := .int ns[k.toNat]) (by omega) (by rw [List.getElem?_map, List.getElem?_eq_getElem hk]; rfl), ?_⟩
        exact ⟨_, rfl, rfl⟩
      · refine ⟨_, rfl, _, _, rfl, rfl, .inl ⟨by decide, by decide⟩, _, _, rfl, rfl, ?_⟩
        exact ⟨_, rfl, rfl⟩
    case rest =>
      rintro σ' H' ⟨c, rfl, rfl⟩
      have m1 : 0 ≤ c.fmod 2305843009213693951 ∧ c.fmod 2305843009213693951 < 2305843009213693951 := ⟨Int.fmod_nonneg_of_pos _ (by decide), Int.fmod_lt_of_pos _ (by decide)⟩
      refine ⟨_, rfl, _, rfl, .inl ⟨_, rfl, _, _, rfl, rfl, cpow1, _, _, rfl, rfl, cpow2, _, _, rfl, rfl, (by rw [pow300]; show (10 ^ 300 : Int) ≠ 0; decide +kernel), _, rfl, _, rfl, _, _, rfl, rfl, cpow3, _, _, rfl, rfl, .inr ⟨_, rfl, _, _, rfl, rfl, .inr (b01 _), ?_⟩⟩⟩
      refine ⟨_, rfl, .inl ⟨_, rfl, _, _, rfl, rfl, (by show (_ : Int) ≠ 0; decide), ?_⟩⟩
      refine ⟨_, rfl, _, rfl, _, _, rfl, rfl, .inl ⟨by omega, by omega⟩, _, rfl, _, _, rfl, rfl, .inl ⟨by decide, by decide⟩, _, rfl, _, _, rfl, rfl, .inr ⟨by omega, by omega⟩, _, _, rfl, rfl, _, _, rfl, rfl, .inl ⟨_, rfl, _, _, rfl, rfl, (by show (_ : Int) ≠ 0; decide), (by show 3 ≤ sizeLine; decide), fun p h1 s1 => ?_⟩⟩
      refine q p _ h1 (fun b o z => by rw [upd_ne (ne_of_none z h1)]; exact z) ⟨_, _, _, upd_same, ?_, ?_, by decide⟩
      · rw [pow300]
        exact own01 (mod300 _) _
      · exact ⟨Int.fmod_nonneg_of_pos _ (by decide), Int.lt_trans (Int.fmod_lt_of_pos _ (by decide)) (by decide)⟩
theorem ok__law_take {fd : FuncData} (F : Fun K "_law_take" "_law_take" s__law_take a._law_take fd) (T : Txt K mg a) :
    Fn P w K mg base CX0 1 a._law_take fd ["_law_pot_here", "_law_upto"] spTake := by
  refine ok F sc__law_take (fun vs H Q E h => ?len) (fun cdv A outer s H vs Q E hq hr h => ⟨_,
      (pss_cons (ps_if (pt_cmpR op_gt (pe_ix ix_list (pv 0) pe_int (fun _ _ => rfl)) pe_int (nomark _)) (pss_cons (ps_set (i := 2) sc__law_take.nd rfl (Or.inl rfl) (pe_op op_modN (pe_callTy call_int1 (by rfl) T.n_int (by decide +kernel) (pa_cons (pe_ix ix_list (pv 0) pe_int (fun _ _ => rfl)) pa_nil)) (pv 1)))
      (pss_cons (ps_asg (pe_op op_fdivN (pe_ix ix_list (pv 0) pe_int (fun _ _ => rfl)) (pv 1)) (pg_sub (pv 0) pe_int set_list))
      (pss_one (ps_ret (pv 2))))) pss_nil)
      (pss_cons (ps_asg (pe_op op_add (pe_ix ix_list (pv 0) pe_int (fun _ _ => rfl)) pe_int) (pg_sub (pv 0) pe_int set_list))
      (pss_cons (ps_set (i := 3) sc__law_take.nd rfl (Or.inl rfl) (pe_ix ix_list (pe_lstS (pa_cons pe_int (pa_cons pe_int (pa_cons pe_int (pa_cons pe_int (pa_cons pe_int pa_nil)))))) (pe_op op_modN (pe_callTy call_int1 (by rfl) T.n_int (by decide +kernel) (pa_cons (pe_ix ix_list (pv 0) pe_int (fun _ _ => rfl)) pa_nil)) pe_int) (fun _ _ => rfl)))
      (pss_cons (ps_set (i := 4) sc__law_take.nd rfl (Or.inl rfl) (pe_op op_modN (pe_callTy call_int1 (by rfl) T.n_int (by decide +kernel) (pa_cons (pe_op op_powW (pe_callTy call_int1 (by rfl) T.n_int (by decide +kernel) (pa_cons (pe_op op_add (pe_op op_add (pe_ix ix_list (pv 0) pe_int (fun _ _ => rfl)) (pe_op op_mul (pe_op op_mul pe_int (pe_ix ix_list (pv 0) pe_int (fun _ _ => rfl))) (pe_ix ix_list (pv 0) pe_int (fun _ _ => rfl)))) pe_int) pa_nil)) pe_int) pa_nil)) (pv 3)))
      (pss_one (ps_ret (pe_op op_modN (pe_callTy call_int1 (by rfl) T.n_int (by decide +kernel) (pa_cons (pe_op op_fdivN (pe_op op_mul (pv 4) (pe_op op_add (pe_op op_modN (pe_callTy call_int1 (by rfl) T.n_int (by decide +kernel) (pa_cons (pv 4) pa_nil)) pe_int) (pe_op op_mul pe_int (pe_ix ix_list (pv 0) pe_int (fun _ _ => rfl))))) pe_int) pa_nil)) (pv 1)))))))), ?body⟩)
  case len => obtain ⟨p, u, n, rfl, _⟩ := h; rfl
  case body =>
    obtain ⟨p, u, n, rfl, ⟨x, y, z, hp, ⟨hx0, hx1⟩, ⟨hy0, hy1⟩, hz0, hz1⟩, hn, hu0, hu1, q⟩ := h
    refine ⟨_, rfl, p, _, _, _, rfl, rfl, SqL.of hp, rfl, _, _, rfl, rfl, _, rfl, ite2 (fun c => ?_) (fun c => ?_)⟩
    · refine ⟨_, rfl, _, _, _, _, rfl, rfl, SqL.of hp, rfl, .inl ⟨_, rfl, _, rfl, _, _, rfl, rfl, (by omega), _, rfl, _, _, _, _, rfl, rfl, SqL.of hp, rfl, _, rfl, _, _, rfl, rfl, ⟨by omega, by omega⟩, _, rfl, _, _, _, _, rfl, rfl, hp, rfl, _, rfl, ?_⟩⟩
      refine q _ _ (Int.fmod_nonneg_of_pos _ (by omega)) (Int.fmod_lt_of_pos _ (by omega)) ⟨by rw [wo_upd]; exact fun _ _ z => z, _, _, _, upd_same, ?_, ⟨hy0, hy1⟩, hz0, by omega⟩
      have e : x.fdiv u = x / u := Int.fdiv_eq_ediv_of_nonneg _ (by omega)
      show 0 ≤ x.fdiv u ∧ x.fdiv u < 10 ^ 300
      rw [e]
      exact ⟨Int.ediv_nonneg hx0 (by omega), Int.lt_of_le_of_lt (Int.ediv_le_self _ hx0) hx1⟩
    · refine ⟨_, rfl, _, _, _, _, rfl, rfl, SqL.of hp, rfl, _, _, rfl, rfl, _, rfl, _, _, _, _, rfl, rfl, hp, rfl, (by show 5 ≤ sizeLine; decide), fun l hl sl => ?_⟩
      have hp1 : upd H p (.lst [V.int x, V.int y, V.int (z + 1)]) p = some (.lst [V.int x, V.int y, V.int (z + 1)]) := upd_same
      replace hl : upd H p (.lst [V.int x, V.int y, V.int (z + 1)]) l = none := hl
      have npl : p ≠ l := ne_of_none hp1 hl
      have hp2 : upd (upd H p (.lst [V.int x, V.int y, V.int (z + 1)])) l (.lst [V.int 2147483647, V.int 2147483629, V.int 2147483587, V.int 2147483579, V.int 2147483563]) p = some (.lst [V.int x, V.int y, V.int (z + 1)]) := by rw [upd_ne npl]; exact hp1
      have hl2 : upd (upd H p (.lst [V.int x, V.int y, V.int (z + 1)])) l (.lst [V.int 2147483647, V.int 2147483629, V.int 2147483587, V.int 2147483579, V.int 2147483563]) l = some (.lst [V.int 2147483647, V.int 2147483629, V.int 2147483587, V.int 2147483579, V.int 2147483563]) := upd_same
      have keep : Same (wo p H) (wo p (upd (upd H p (.lst [V.int x, V.int y, V.int (z + 1)])) l (.lst [V.int 2147483647, V.int 2147483629, V.int 2147483587, V.int 2147483579, V.int 2147483563]))) := by
        intro b o e
        by_cases hb : b = p
        · rw [hb, wo_same] at e; cases e
        · rw [wo_ne hb] at e ⊢
          have : b ≠ l := by
            rintro rfl
            rw [upd_ne hb, e] at hl
            cases hl
          rw [upd_ne this, upd_ne hb]; exact e
      -- which prime
      obtain ⟨j, hj, ej⟩ : ∃ j : Nat, j < 5 ∧ (z + 1).fmod 5 = (j : Int) := ⟨((z + 1).fmod 5).toNat, by have := Int.fmod_lt_of_pos (z + 1) (show (0 : Int) < 5 by decide); have := Int.fmod_nonneg_of_pos (z + 1) (show (0 : Int) < 5 by decide); omega, by have := Int.fmod_nonneg_of_pos (z + 1) (show (0 : Int) < 5 by decide); omega⟩
      obtain ⟨pr, hpr, at5⟩ : ∃ pr : Int, (2147483563 ≤ pr ∧ pr ≤ 2147483647) ∧ [V.int 2147483647, V.int 2147483629, V.int 2147483587, V.int 2147483579, V.int 2147483563][j]? = some (.int pr) := by
        match j, hj with
        | 0, _ => exact ⟨_, ⟨by decide, by decide⟩, rfl⟩
        | 1, _ => exact ⟨_, ⟨by decide, by decide⟩, rfl⟩
        | 2, _ => exact ⟨_, ⟨by decide, by decide⟩, rfl⟩
        | 3, _ => exact ⟨_, ⟨by decide, by decide⟩, rfl⟩
        | 4, _ => exact ⟨_, ⟨by decide, by decide⟩, rfl⟩
      have zz : 0 ≤ (z + 1) * (z + 1) ∧ (z + 1) * (z + 1) ≤ 100001 * 100001 := ⟨Int.mul_nonneg (by omega) (by omega), Int.mul_le_mul (by omega) (by omega) (by omega) (by omega)⟩
      have e9 : 91033 * (z + 1) * (z + 1) = 91033 * ((z + 1) * (z + 1)) := Int.mul_assoc _ _ _
      refine ⟨_, rfl, _, _, _, _, rfl, rfl, SqL.of hp2, rfl, .inl ⟨_, rfl, _, _, rfl, rfl, (by show (_ : Int) ≠ 0; decide), _, _, _, _, rfl, rfl, SqL.of hl2, at_of ej at5, ?_⟩⟩
      refine ⟨_, rfl, _, _, _, _, rfl, rfl, SqL.of hp2, rfl, _, rfl, _, _, _, _, rfl, rfl, SqL.of hp2, rfl, _, _, rfl, rfl, .inl ⟨by decide, by decide⟩, _, rfl, _, _, _, _, rfl, rfl, SqL.of hp2, rfl, _, _, rfl, rfl, .inl ⟨by omega, by omega⟩, _, _, rfl, rfl, _, _, rfl, rfl, .inl ⟨_, rfl, _, _, rfl, rfl, ?pow, .inl ⟨_, rfl, _, rfl, _, _, rfl, rfl, (by omega), ?_⟩⟩⟩
      case pow => exact cpow_of (by rw [e9]; omega) (by rw [e9]; omega)
      generalize (y + 91033 * (z + 1) * (z + 1) + 71) ^ (3 : Int).toNat = bb
      have mb : 0 ≤ bb.fmod pr ∧ bb.fmod pr < pr := ⟨Int.fmod_nonneg_of_pos _ (by omega), Int.fmod_lt_of_pos _ (by omega)⟩
      refine ⟨_, rfl, _, rfl, .inl ⟨_, rfl, _, _, rfl, rfl, (by show (_ : Int) ≠ 0; decide), _, rfl, _, _, _, _, rfl, rfl, SqL.of hp2, rfl, _, _, rfl, rfl, .inl ⟨by decide, by decide⟩, _, _, rfl, rfl, _, _, rfl, rfl, .inl ⟨by omega, by omega⟩, _, _, rfl, rfl, ⟨by decide, by decide⟩, .inl ⟨_, rfl, _, rfl, _, _, rfl, rfl, (by omega), ?_⟩⟩⟩
      exact q _ _ (Int.fmod_nonneg_of_pos _ (by omega)) (Int.fmod_lt_of_pos _ (by omega)) ⟨keep, _, _, _, hp2, ⟨hx0, hx1⟩, ⟨hy0, hy1⟩, by omega, by omega⟩
theorem ok__law_of {fd : FuncData} (F : Fun K "_law_of" "_law_of" s__law_of a._law_of fd) (T : Txt K mg a)
    {fd__law_take : FuncData} (G__law_take : Fn P w K mg base CX0 1 a._law_take fd__law_take ["_law_pot_here", "_law_upto"] spTake) (b__law_take : Binds K fd__law_take ["_law_pot_here", "_law_upto"] []) :
    Fn P w K mg base CX0 2 a._law_of fd ["_law_pot_here", "_law_some"] spOf := by
  refine ok F sc__law_of (fun vs H Q E h => ?len) (fun cdv A outer s H vs Q E hq hr h => ⟨_,
      (pss_one (ps_ret (pe_ix ix_list (pv 1) (pe_fn G__law_take hq (hr.mono (by omega)) (by rfl) T.g__law_take T.k__law_take b__law_take .nil pass0 (pa_cons (pv 0) (pa_cons (pe_callB call_len_seq (by rfl) T.n_len (by decide +kernel) (pa_cons (pv 1) pa_nil)) pa_nil))) (fun _ _ => rfl)))), ?body⟩)
  case len => obtain ⟨p, s, n, xs, rfl, _⟩ := h; rfl
  case body =>
    obtain ⟨p, s, n, xs, rfl, hsp, pot, hn, hs, hne, hz, q⟩ := h
    have h1 : 1 ≤ xs.length := List.length_pos_iff.mpr hne
    refine ⟨_, rfl, _, rfl, _, rfl, _, _, rfl, .inl (SqL.of hs), ?_⟩
    refine ⟨p, _, n, rfl, pot, hn, by omega, by omega, fun d H1 d0 d1 g => ?_⟩
    have hd : d.toNat < xs.length := by omega
    refine ⟨_, _, _, _, rfl, rfl, SqL.of (g.at hs hsp), at_of (j := d.toNat) (by omega) (List.getElem?_eq_getElem hd), ?_⟩
    exact q _ _ (List.getElem_mem hd) g
theorem ok__law_places {fd : FuncData} (F : Fun K "_law_places" "_law_places" s__law_places a._law_places fd) (T : Txt K mg a) :
    Fn P w K mg base CX0 1 a._law_places fd ["_law_script", "_law_most"] (spPlaces K) := by
  refine ok F sc__law_places (fun vs H Q E h => ?len) (fun cdv A outer s H vs Q E hq hr h => ⟨_,
      (pss_one (ps_ret (pe_listRg rfl (by rfl) T.n_list (prg_1 (by rfl) T.n_range (pe_callB (call_max2 rfl) (by rfl) T.n_max (by decide +kernel) (pa_cons pe_int (pa_cons (pe_callB (call_min2 rfl) (by rfl) T.n_min (by decide +kernel) (pa_cons (pv 1) (pa_cons (pe_callB call_len_seq (by rfl) T.n_len (by decide +kernel) (pa_cons (pv 0) pa_nil)) pa_nil))) pa_nil))))))), ?body⟩)
  case len => obtain ⟨s, ns, m, rfl, _⟩ := h; rfl
  case body =>
    obtain ⟨s, ns, m, rfl, hs, hl, hm0, hm1, q⟩ := h
    refine ⟨_, rfl, _, rfl, _, _, rfl, .inl hs, _, _, rfl, _, _, rfl, _, rfl, RgOk.of_le (by decide) (by rw [List.length_map]; split <;> split <;> omega) (by decide) (by split <;> split <;> omega), fun l h1 => ?_⟩
    obtain ⟨k, ek, hk⟩ : ∃ k : Nat, (if (if ((ns.map V.int).length : Int) < m then ((ns.map V.int).length : Int) else m) > 1 then (if ((ns.map V.int).length : Int) < m then ((ns.map V.int).length : Int) else m) else 1) = (k : Int) ∧ (k : Int) ≤ m := by
      refine ⟨_, (Int.toNat_of_nonneg ?_).symm, ?_⟩
      · split <;> split <;> omega
      · rw [Int.toNat_of_nonneg (by split <;> split <;> omega)]
        split <;> split <;> omega
    refine q l k _ h1 (fun b o z => by rw [upd_ne (ne_of_none z h1)]; exact z) hk (Eq.trans upd_same ?_)
    rw [← ek]
end
end My

namespace My
open PySem PySem.Spec PyProof.Rows L2 G
abbrev s_is_integer : Stmt := topS 11
theorem sc_is_integer : FnScope ["value"] ["value"] (defScope s_is_integer) := ⟨rfl, rfl, rfl, by decide +kernel, rfl, by decide +kernel, by decide +kernel⟩

abbrev s_is_number : Stmt := topS 12
theorem sc_is_number : FnScope ["value"] ["value"] (defScope s_is_number) := ⟨rfl, rfl, rfl, by decide +kernel, rfl, by decide +kernel, by decide +kernel⟩

abbrev s_Ratio___init__ : Stmt := inClass (topS 19) 0
theorem sc_Ratio___init__ : FnScope ["self", "number", "under", "common"] ["self", "number", "under"] (defScope s_Ratio___init__) := ⟨rfl, rfl, rfl, by decide +kernel, rfl, by decide +kernel, by decide +kernel⟩

abbrev s_as_ratio : Stmt := topS 13
theorem sc_as_ratio : FnScope ["number"] ["number"] (defScope s_as_ratio) := ⟨rfl, rfl, rfl, by decide +kernel, rfl, by decide +kernel, by decide +kernel⟩

abbrev s_difference : Stmt := topS 14
theorem sc_difference : FnScope ["one", "other"] ["one", "other"] (defScope s_difference) := ⟨rfl, rfl, rfl, by decide +kernel, rfl, by decide +kernel, by decide +kernel⟩

abbrev s_Ratio_divided : Stmt := inClass (topS 19) 3
theorem sc_Ratio_divided : FnScope ["self", "other", "by"] ["self", "other"] (defScope s_Ratio_divided) := ⟨rfl, rfl, rfl, by decide +kernel, rfl, by decide +kernel, by decide +kernel⟩

abbrev s_Ratio___add__ : Stmt := inClass (topS 19) 4
theorem sc_Ratio___add__ : FnScope ["self", "other", "more"] ["self", "other"] (defScope s_Ratio___add__) := ⟨rfl, rfl, rfl, by decide +kernel, rfl, by decide +kernel, by decide +kernel⟩

abbrev s_Ratio___sub__ : Stmt := inClass (topS 19) 6
theorem sc_Ratio___sub__ : FnScope ["self", "other", "less"] ["self", "other"] (defScope s_Ratio___sub__) := ⟨rfl, rfl, rfl, by decide +kernel, rfl, by decide +kernel, by decide +kernel⟩

abbrev s_Ratio___mul__ : Stmt := inClass (topS 19) 8
theorem sc_Ratio___mul__ : FnScope ["self", "other", "times"] ["self", "other"] (defScope s_Ratio___mul__) := ⟨rfl, rfl, rfl, by decide +kernel, rfl, by decide +kernel, by decide +kernel⟩

abbrev s_Ratio___eq__ : Stmt := inClass (topS 19) 16
theorem sc_Ratio___eq__ : FnScope ["self", "other"] ["self", "other"] (defScope s_Ratio___eq__) := ⟨rfl, rfl, rfl, by decide +kernel, rfl, by decide +kernel, by decide +kernel⟩

abbrev ratFs (n u : Int) : List (Str × V) := [("number", .int n), ("under", .int u)]
/-- a Ratio -/
def RatAt (C : Addr) (H : Hp) (v : V) (n u : Int) : Prop := ∃ a dx, v = .ref a ∧ H a = some (.ins C dx (ratFs n u))
theorem RatAt.same {C : Addr} {H H' : Hp} {v : V} {n u : Int} (S : Same H H') (h : RatAt C H v n u) : RatAt C H' v n u := let ⟨a, dx, e, h1⟩ := h; ⟨a, dx, e, S _ _ h1⟩
/-- a number: a Ratio or an int -/
def NumAt (C : Addr) (H : Hp) (v : V) (n u : Int) : Prop := (v = .int n ∧ u = 1) ∨ RatAt C H v n u
theorem NumAt.same {C : Addr} {H H' : Hp} {v : V} {n u : Int} (S : Same H H') (h : NumAt C H v n u) : NumAt C H' v n u := h.imp id fun h => h.same S
/-- the Ratio of a fraction -/
abbrev RatQ (C : Addr) (H : Hp) (v : V) (q : Rat) : Prop := RatAt C H v q.num (q.den : Int)
abbrev NumQ (C : Addr) (H : Hp) (v : V) (q : Rat) : Prop := NumAt C H v q.num (q.den : Int)
def CDivZ (_ j : Int) : Prop := j ≠ 0 ∧ j.natAbs.log2 < 9000
theorem op_fdivZ {X : Cx} : OpR X (binaryOp .FloorDiv) (rI CDivZ fun i j => .int (i.fdiv j)) := opI fun _ _ _ _ _ _ _ hc q => floordiv_int hc.1 q (.inl (PyProof.noPylong_of_log2 hc.2))
/-- an int that may divide -/
def Ud (u : Int) : Prop := u.natAbs < 2 ^ 8000
theorem log_of {u : Int} (h : Ud u) : u.natAbs.log2 < 9000 := Nat.lt_of_lt_of_le (PySem.Flt.log2_lt_of (k := 8000) (by decide) h) (by decide)
theorem cw {i j : Int} (h : Ud i) (h' : Ud j) : CMulW i j := wide_mul (a := 8000) (b := 8000) h h' (by decide) (by decide) (by decide)
theorem wd_ud {i : Int} (h : Wd i) : Ud i := Nat.lt_of_lt_of_le (m := 2 ^ 2000) h (Nat.pow_le_pow_right (by decide) (by decide))
theorem wd_mul {i j : Int} (h : Wd i) (h' : Wd j) : (i * j).natAbs < 2 ^ 4000 := by
  rw [show 4000 = 2000 + 2000 by rfl]
  exact wide_lt h h'
theorem wd_ud2 {i j : Int} (h : Wd i) (h' : Wd j) : Ud (i * j) := Nat.lt_of_lt_of_le (wd_mul h h') (Nat.pow_le_pow_right (by decide) (by decide))
def spIsInt (K : PySem.W.Frag) : Sp := fun vs H Q _ => ∃ v t b1 b2, vs = [v] ∧ TyX K H v t ∧ PySem.W.kitOne K t (.type "int") = some b1 ∧ PySem.W.kitOne K t (.type "bool") = some b2 ∧ Q (.bl (b1 && !b2)) H
def spIsNum (K : PySem.W.Frag) (C : Addr) : Sp := fun vs H Q _ => ∃ v t b1 b2 b3, vs = [v] ∧ TyX K H v t ∧ PySem.W.kitOne K t (.type "int") = some b1 ∧ PySem.W.kitOne K t (.type "bool") = some b2 ∧ PySem.W.kitOne K t (.ref C) = some b3 ∧ Q (.bl ((b1 && !b2) || b3)) H
def spInit (K : PySem.W.Frag) (C : Addr) : Sp := fun vs H Q _ => ∃ x dx n u, vs = [.ref x, .int n, .int u] ∧ u ≠ 0 ∧ Ud u ∧ H x = some (.ins C dx []) ∧ Q .non (upd H x (.ins C dx (ratFs (rNum n u) (rUnd n u))))
def spAs (K : PySem.W.Frag) (C : Addr) : Sp := fun vs H Q _ => ∃ v n u, vs = [v] ∧ NumAt C H v n u ∧ ∀ w H', Same H H' → RatAt C H' w n u → Q w H'
def spDiff (C : Addr) : Sp := fun vs H Q _ => ∃ v w n u m t, vs = [v, w] ∧ RatAt C H v n u ∧ RatAt C H w m t ∧ Wd n ∧ Wd u ∧ Wd m ∧ Wd t ∧ Q (.int (n * t - m * u)) H
def gAdd (x y : Rat) : Rat := x + y
def gSub (x y : Rat) : Rat := x - y
def gMul (x y : Rat) : Rat := x * y
def gDiv (x y : Rat) : Rat := x / y
/-- self op other: a new Ratio -/
def spBin (C : Addr) (f : Rat → Rat → Rat) : Sp := fun vs H Q _ => ∃ v w x y, vs = [v, w] ∧ RatQ C H v x ∧ NumQ C H w y ∧ Wq x ∧ Wq y ∧ ∀ z H', Same H H' → RatQ C H' z (f x y) → Q z H'
def spBin0 (C : Addr) (f : Rat → Rat → Rat) : Sp := fun vs H Q _ => ∃ v w x y, vs = [v, w] ∧ RatQ C H v x ∧ NumQ C H w y ∧ Wq x ∧ Wq y ∧ y ≠ 0 ∧ ∀ z H', Same H H' → RatQ C H' z (f x y) → Q z H'
theorem numTy {K : PySem.W.Frag} {mg : Str → Option Value} {a : Ad} (T : Txt K mg a) {H : Hp} {v : V} {n u : Int} (h : NumAt a.Ratio H v n u) :
    ∃ ty b1 b2 b3, TyX K H v ty ∧ PySem.W.kitOne K ty (.type "int") = some b1 ∧ PySem.W.kitOne K ty (.type "bool") = some b2 ∧ PySem.W.kitOne K ty (.ref a.Ratio) = some b3 ∧ ((b1 && !b2) || b3) = true := by
  rcases h with ⟨rfl, _⟩ | ⟨x, dx, rfl, e⟩
  · exact ⟨_, true, false, false, .base (.int _), kit_ty (by decide +kernel), kit_ty (by decide +kernel), T.ri.kt _ (by simp), rfl⟩
  · exact ⟨_, false, false, true, .base (.ins e T.cl T.ri.ca T.ri.cn T.ri.ct T.ri.cm), T.ri.ki, T.ri.kb, T.ri.ks, rfl⟩
theorem ratTy {K : PySem.W.Frag} {mg : Str → Option Value} {a : Ad} (T : Txt K mg a) {H : Hp} {v : V} {n u : Int} (h : RatAt a.Ratio H v n u) : TyX K H v (.ref a.Ratio) := by
  obtain ⟨x, dx, rfl, e⟩ := h
  exact .base (.ins e T.cl T.ri.ca T.ri.cn T.ri.ct T.ri.cm)
/-- what is no Ratio -/
def NotR (K : PySem.W.Frag) (C : Addr) (H : Hp) (w : V) : Prop := ∃ t, TyX K H w t ∧ PySem.W.kitOne K t (.ref C) = some false
def spEqq (K : PySem.W.Frag) (C : Addr) : Sp := fun vs H Q _ => ∃ v w n u, vs = [v, w] ∧ RatAt C H v n u ∧ ((∃ m t, RatAt C H w m t ∧ Q (.bl (decide (n = m ∧ u = t))) H) ∨ (NotR K C H w ∧ Q (.bl false) H))
/-- what C(n, u) asks -/
theorem mk_rat {K : PySem.W.Frag} {C : Addr} {H : Hp} {n u : Int} {Q : VK} (h0 : u ≠ 0) (h1 : Ud u) (q : ∀ w H', Same H H' → RatAt C H' w (rNum n u) (rUnd n u) → Q w H') :
    ∀ x dx, H x = none → H dx = none → dx ≠ x → spInit K C [.ref x, .int n, .int u] (upd (upd H dx (.own x)) x (.ins C dx [])) (fun v H2 => v = .non ∧ Q (.ref x) H2) E0 := by
  intro x dx hx hdx ne
  refine ⟨x, dx, n, u, rfl, h0, h1, upd_same, rfl, q _ _ (fun b o e => ?_) ⟨x, dx, rfl, upd_same⟩⟩
  rw [upd_ne (ne_of_none e hx), upd_ne (ne_of_none e hx), upd_ne (ne_of_none e hdx)]
  exact e
theorem mk_q {K : PySem.W.Frag} {C : Addr} {H : Hp} {n u : Int} {Q : VK} (h0 : u ≠ 0) (h1 : Ud u) (q : ∀ w H', Same H H' → RatQ C H' w (Rat.divInt n u) → Q w H') :
    ∀ x dx, H x = none → H dx = none → dx ≠ x → spInit K C [.ref x, .int n, .int u] (upd (upd H dx (.own x)) x (.ins C dx [])) (fun v H2 => v = .non ∧ Q (.ref x) H2) E0 :=
  mk_rat h0 h1 fun w H' S r => q w H' S (by rw [(rq h0).1, (rq h0).2] at r; exact r)
section
variable {P : Program} {w : World} {K : PySem.W.Frag} {mg : Str → Option Value} {base : Heap} {a : Ad}
theorem ok_is_integer {fd : FuncData} (F : Fun K "is_integer" "is_integer" s_is_integer a.is_integer fd) (T : Txt K mg a) :
    FnOk P w K mg base CX0 1 a.is_integer fd ["value"] (spIsInt K) := by
  refine F.ok sc_is_integer (fun vs H Q E h => ?len) (fun cdv A outer s H vs Q E hr h => ⟨_,
      (pss_one (ps_ret (pe_and (pe_callB call_isi (by rfl) T.n_isinstance (by decide +kernel) (pa_cons (pv 0) (pa_cons (pe_bltn (v := .ty "int") (u := .type "int") (by rfl) T.n_int (by decide +kernel) rfl) pa_nil))) (pe_one (pe_not (pe_callB call_isi (by rfl) T.n_isinstance (by decide +kernel) (pa_cons (pv 0) (pa_cons (pe_bltn (v := .ty "bool") (u := .type "bool") (by rfl) T.n_bool (by decide +kernel) rfl) pa_nil)))))))), ?body⟩)
  case len => obtain ⟨v, t, b1, b2, rfl, _⟩ := h; rfl
  case body =>
    obtain ⟨v, t, b1, b2, rfl, ty, k1, k2, q⟩ := h
    refine ⟨_, rfl, _, _, _, _, b1, rfl, .ty _, ty, k1, b1, rfl, ?_⟩
    cases b1
    · exact iteF q
    · exact iteT ⟨_, rfl, _, _, _, _, b2, rfl, .ty _, ty, k2, b2, rfl, q⟩
theorem ok_is_number {fd : FuncData} (F : Fun K "is_number" "is_number" s_is_number a.is_number fd) (T : Txt K mg a)
    {fd_is_integer : FuncData} (G_is_integer : FnOk P w K mg base CX0 1 a.is_integer fd_is_integer ["value"] (spIsInt K)) (b_is_integer : Binds K fd_is_integer ["value"] []) :
    FnOk P w K mg base CX0 2 a.is_number fd ["value"] (spIsNum K a.Ratio) := by
  refine F.ok sc_is_number (fun vs H Q E h => ?len) (fun cdv A outer s H vs Q E hr h => ⟨_,
      (pss_one (ps_ret (pe_or (pe_call G_is_integer (hr.mono (by omega)) (by rfl) T.g_is_integer T.k_is_integer b_is_integer .nil pass0 (pa_cons (pv 0) pa_nil)) (pe_one (pe_callB call_isi (by rfl) T.n_isinstance (by decide +kernel) (pa_cons (pv 0) (pa_cons (pe_glob (v := .ref a.Ratio) (by rfl) T.g_Ratio rfl) pa_nil))))))), ?body⟩)
  case len => obtain ⟨v, t, b1, b2, b3, rfl, _⟩ := h; rfl
  case body =>
    obtain ⟨v, t, b1, b2, b3, rfl, ty, k1, k2, k3, q⟩ := h
    refine ⟨_, rfl, v, t, b1, b2, rfl, ty, k1, k2, (b1 && !b2), rfl, ?_⟩
    cases hb : (b1 && !b2)
    · rw [hb] at q
      exact iteF ⟨_, rfl, _, _, _, _, b3, rfl, .own _, ty, k3, q⟩
    · rw [hb] at q
      exact iteT q
theorem ok_Ratio___init__ {fd : FuncData} (F : FunD K "__init__" "Ratio.__init__" (defArgs s_Ratio___init__) (defBody s_Ratio___init__) (defScope s_Ratio___init__) [.int 1] [] a.Ratio___init__ fd) (T : Txt K mg a)
    {fd_is_integer : FuncData} (G_is_integer : FnOk P w K mg base CX0 1 a.is_integer fd_is_integer ["value"] (spIsInt K)) (b_is_integer : Binds K fd_is_integer ["value"] []) :
    FnOk P w K mg base CX0 2 a.Ratio___init__ fd ["self", "number", "under"] (spInit K a.Ratio) := by
  refine F.ok sc_Ratio___init__ (fun vs H Q E h => ?len) (fun cdv A outer s H vs Q E hr h => ⟨_,
      (pss_cons (ps_if (PW.pt (pw_or (pt_not (pt_val (pe_call G_is_integer (hr.mono (by omega)) (by rfl) T.g_is_integer T.k_is_integer b_is_integer .nil pass0 (pa_cons (pv 1) pa_nil)))) (pw_or (pt_not (pt_val (pe_call G_is_integer (hr.mono (by omega)) (by rfl) T.g_is_integer T.k_is_integer b_is_integer .nil pass0 (pa_cons (pv 2) pa_nil)))) (pw_or1 (pt_cmpR op_eq (pv 2) pe_int (nomark _)))))) (pss_one ps_never) pss_nil)
      (pss_cons (ps_set (i := 3) sc_Ratio___init__.nd rfl (Or.inl rfl) (pe_ifExp (pt_cmpR op_gt (pv 2) pe_int (nomark _)) (pe_callBfun cr_gcd (by rfl) T.g_gcd (pa_cons (pv 1) (pa_cons (pv 2) pa_nil))) (pe_un un_neg (pe_callBfun cr_gcd (by rfl) T.g_gcd (pa_cons (pv 1) (pa_cons (pv 2) pa_nil))))))
      (pss_cons (ps_fld (pv 0) (pe_op op_fdivZ (pv 1) (pv 3)) rfl)
      (pss_one (ps_fld (pv 0) (pe_op op_fdivZ (pv 2) (pv 3)) rfl))))), ?body⟩)
  case len => obtain ⟨x, dx, n, u, rfl, _⟩ := h; rfl
  case body =>
    obtain ⟨x, dx, n, u, rfl, h0, h1, hx, q⟩ := h
    refine ⟨_, rfl, .int n, .type "int", true, false, rfl, .base (.int _), kit_ty (by decide +kernel), kit_ty (by decide +kernel), _, rfl, iteF ?_⟩
    refine ⟨_, rfl, .int u, .type "int", true, false, rfl, .base (.int _), kit_ty (by decide +kernel), kit_ty (by decide +kernel), _, rfl, iteF ?_⟩
    refine ⟨_, rfl, rfl, _, rfl, ite2 (fun c => ?_) (fun c => ?_)⟩
    · exact absurd (of_decide_eq_true c) (by intro z; injection z with z; exact h0 z)
    have hb : byOf n u ≠ 0 := byOf_ne h0
    have hl : (byOf n u).natAbs.log2 < 9000 := log_of (show (byOf n u).natAbs < 2 ^ 8000 from Nat.lt_of_le_of_lt (byOf_le h0) h1)
    have fin : ∀ g : Int, g = byOf n u → Q .non (upd (upd H x (.ins a.Ratio dx [("number", .int (n.fdiv g))])) x (.ins a.Ratio dx [("number", .int (n.fdiv g)), ("under", .int (u.fdiv g))])) := fun g e => by
      rw [upd_upd, e]
      exact q
    refine ⟨_, rfl, _, _, rfl, rfl, _, rfl, ite2 (fun c2 => ?_) (fun c2 => ?_)⟩
    · have hu : 0 < u := of_decide_eq_true c2
      have e : ((Nat.gcd n.natAbs u.natAbs : Nat) : Int) = byOf n u := by
        unfold byOf
        rw [if_neg (by omega)]
      refine ⟨_, rfl, _, rfl, _, _, rfl, ?_⟩
      refine ⟨_, rfl, _, rfl, _, _, rfl, rfl, ⟨by rw [e]; exact hb, by rw [e]; exact hl⟩, _, rfl, _, _, _, _, rfl, hx, T.cl, T.nN, by decide, ?_⟩
      refine ⟨_, rfl, _, rfl, _, _, rfl, rfl, ⟨by rw [e]; exact hb, by rw [e]; exact hl⟩, _, rfl, _, _, _, _, rfl, upd_same, T.cl, T.nU, (by show 1 < 1000; decide), ?_⟩
      exact fin _ e
    · have hu : ¬ 0 < u := fun z => c2 (decide_eq_true z)
      have e : -((Nat.gcd n.natAbs u.natAbs : Nat) : Int) = byOf n u := by
        unfold byOf
        rw [if_pos (by omega)]
      refine ⟨_, rfl, _, rfl, _, _, rfl, _, rfl, ?_⟩
      refine ⟨_, rfl, _, rfl, _, _, rfl, rfl, ⟨by rw [e]; exact hb, by rw [e]; exact hl⟩, _, rfl, _, _, _, _, rfl, hx, T.cl, T.nN, by decide, ?_⟩
      refine ⟨_, rfl, _, rfl, _, _, rfl, rfl, ⟨by rw [e]; exact hb, by rw [e]; exact hl⟩, _, rfl, _, _, _, _, rfl, upd_same, T.cl, T.nU, (by show 1 < 1000; decide), ?_⟩
      exact fin _ e
theorem ok_as_ratio {fd : FuncData} (F : Fun K "as_ratio" "as_ratio" s_as_ratio a.as_ratio fd) (T : Txt K mg a)
    {fd_Ratio___init__ : FuncData} (G_Ratio___init__ : FnOk P w K mg base CX0 2 a.Ratio___init__ fd_Ratio___init__ ["self", "number", "under"] (spInit K a.Ratio)) (b_Ratio___init__ : Binds K fd_Ratio___init__ ["self", "number", "under"] [])
    {ds_Ratio___init__ : List Value} (d_Ratio___init__ : Vals [.int 1] ds_Ratio___init__ ∧ Binds K fd_Ratio___init__ ["self", "number", "under"] ds_Ratio___init__) :
    FnOk P w K mg base CX0 4 a.as_ratio fd ["number"] (spAs K a.Ratio) := by
  refine F.ok sc_as_ratio (fun vs H Q E h => ?len) (fun cdv A outer s H vs Q E hr h => ⟨_,
      (pss_one (ps_ret (pe_ifExp (pt_val (pe_callB call_isi (by rfl) T.n_isinstance (by decide +kernel) (pa_cons (pv 0) (pa_cons (pe_glob (v := .ref a.Ratio) (by rfl) T.g_Ratio rfl) pa_nil)))) (pv 0) (pe_make T.m_Ratio G_Ratio___init__ (hr.mono (by omega)) (by rfl) T.g_Ratio d_Ratio___init__.2 d_Ratio___init__.1 pass0 (pa_cons (pv 0) pa_nil))))), ?body⟩)
  case len => obtain ⟨v, n, u, rfl, _⟩ := h; rfl
  case body =>
    obtain ⟨v, n, u, rfl, hv, q⟩ := h
    rcases hv with ⟨rfl, rfl⟩ | hv
    · refine ⟨_, rfl, _, _, _, _, false, rfl, .own _, .base (.int _), T.ri.kt _ (by simp), _, rfl, iteF ?_⟩
      refine ⟨_, rfl, mk_rat (by decide) (show (1 : Int).natAbs < 2 ^ 8000 by decide +kernel) fun w H' S hw => q w H' S ?_⟩
      rw [(red_int n).same.1, (red_int n).same.2] at hw
      exact hw
    · refine ⟨_, rfl, _, _, _, _, true, rfl, .own _, ratTy T hv, T.ri.ks, _, rfl, iteT ?_⟩
      exact ⟨_, rfl, q v H (Same.refl _) hv⟩
theorem ok_difference {fd : FuncData} (F : Fun K "difference" "difference" s_difference a.difference fd) (T : Txt K mg a) :
    FnOk P w K mg base CX0 1 a.difference fd ["one", "other"] (spDiff a.Ratio) := by
  refine F.ok sc_difference (fun vs H Q E h => ?len) (fun cdv A outer s H vs Q E hr h => ⟨_,
      (pss_one (ps_ret (pe_op op_sub (pe_op op_mulW (pe_fld (pv 0) rfl) (pe_fld (pv 1) rfl)) (pe_op op_mulW (pe_fld (pv 1) rfl) (pe_fld (pv 0) rfl))))), ?body⟩)
  case len => obtain ⟨v, w, n, u, m, t, rfl, _⟩ := h; rfl
  case body =>
    obtain ⟨v, w, n, u, m, t, rfl, ⟨x, dx, rfl, hx⟩, ⟨y, dy, rfl, hy⟩, sn, su, sm, st, q⟩ := h
    refine ⟨_, rfl, _, _, _, _, _, rfl, hx, T.cl, T.nN, rfl, _, rfl, _, _, _, _, _, rfl, hy, T.cl, T.nU, rfl, _, _, rfl, rfl, cw (wd_ud sn) (wd_ud st), ?_⟩
    refine ⟨_, rfl, _, _, _, _, _, rfl, hy, T.cl, T.nN, rfl, _, rfl, _, _, _, _, _, rfl, hx, T.cl, T.nU, rfl, _, _, rfl, rfl, cw (wd_ud sm) (wd_ud su), ?_⟩
    exact ⟨_, _, rfl, rfl, q⟩
theorem ok_Ratio_divided {fd : FuncData} (F : Fun K "divided" "Ratio.divided" s_Ratio_divided a.Ratio_divided fd) (T : Txt K mg a)
    {fd_Ratio___init__ : FuncData} (G_Ratio___init__ : FnOk P w K mg base CX0 2 a.Ratio___init__ fd_Ratio___init__ ["self", "number", "under"] (spInit K a.Ratio)) (b_Ratio___init__ : Binds K fd_Ratio___init__ ["self", "number", "under"] [])
    {ds_Ratio___init__ : List Value} (d_Ratio___init__ : Vals [.int 1] ds_Ratio___init__ ∧ Binds K fd_Ratio___init__ ["self", "number", "under"] ds_Ratio___init__)
    {fd_as_ratio : FuncData} (G_as_ratio : FnOk P w K mg base CX0 4 a.as_ratio fd_as_ratio ["number"] (spAs K a.Ratio)) (b_as_ratio : Binds K fd_as_ratio ["number"] [])
    {fd_is_number : FuncData} (G_is_number : FnOk P w K mg base CX0 2 a.is_number fd_is_number ["value"] (spIsNum K a.Ratio)) (b_is_number : Binds K fd_is_number ["value"] []) :
    FnOk P w K mg base CX0 5 a.Ratio_divided fd ["self", "other"] (spBin0 a.Ratio gDiv) := by
  refine F.ok sc_Ratio_divided (fun vs H Q E h => ?len) (fun cdv A outer s H vs Q E hr h => ⟨_,
      (pss_cons (ps_if (PW.pt (pw_or (pt_not (pt_val (pe_call G_is_number (hr.mono (by omega)) (by rfl) T.g_is_number T.k_is_number b_is_number .nil pass0 (pa_cons (pv 1) pa_nil)))) (pw_or1 (pt_cmpR op_eq (pe_fld (pe_call G_as_ratio (hr.mono (by omega)) (by rfl) T.g_as_ratio T.k_as_ratio b_as_ratio .nil pass0 (pa_cons (pv 1) pa_nil)) rfl) pe_int (nomark _))))) (pss_one ps_never) pss_nil)
      (pss_cons (ps_set (i := 2) sc_Ratio_divided.nd rfl (Or.inl rfl) (pe_call G_as_ratio (hr.mono (by omega)) (by rfl) T.g_as_ratio T.k_as_ratio b_as_ratio .nil pass0 (pa_cons (pv 1) pa_nil)))
      (pss_one (ps_ret (pe_make T.m_Ratio G_Ratio___init__ (hr.mono (by omega)) (by rfl) T.g_Ratio b_Ratio___init__ .nil pass0 (pa_cons (pe_op op_mulW (pe_fld (pv 0) rfl) (pe_fld (pv 2) rfl)) (pa_cons (pe_op op_mulW (pe_fld (pv 0) rfl) (pe_fld (pv 2) rfl)) pa_nil))))))), ?body⟩)
  case len => obtain ⟨v, w, x, y, rfl, _⟩ := h; rfl
  case body =>
    obtain ⟨v, w, qx, qy, rfl, hv, hw, w1, w2, ne, q⟩ := h
    obtain ⟨ty, b1, b2, b3, t1, k1, k2, k3, e⟩ := numTy T hw
    refine ⟨_, rfl, w, ty, b1, b2, b3, rfl, t1, k1, k2, k3, _, rfl, ?_⟩
    rw [e]
    refine iteF ?_
    refine ⟨_, rfl, w, _, _, rfl, hw, fun r H0 S0 hr0 => ?_⟩
    obtain ⟨y0, dy0, rfl, hy0⟩ := hr0
    refine ⟨_, _, _, _, _, rfl, hy0, T.cl, T.nN, rfl, rfl, _, rfl, ite2 (fun c => ?_) (fun c => ?_)⟩
    · have z := of_decide_eq_true c
      injection z with z
      exact absurd z (num_ne ne)
    refine ⟨_, rfl, w, _, _, rfl, NumAt.same S0 hw, fun r H1 S1' hr1 => ?_⟩
    have S1 := S0.trans S1'
    obtain ⟨x, dx, rfl, hx⟩ := RatAt.same S1 hv
    obtain ⟨y, dy, rfl, hy⟩ := hr1
    refine ⟨_, rfl, _, _, _, _, _, rfl, hx, T.cl, T.nN, rfl, _, rfl, _, _, _, _, _, rfl, hy, T.cl, T.nU, rfl, _, _, rfl, rfl, cw (wd_ud w1.wn) (wd_ud w2.wd), ?_⟩
    refine ⟨_, rfl, _, _, _, _, _, rfl, hx, T.cl, T.nU, rfl, _, rfl, _, _, _, _, _, rfl, hy, T.cl, T.nN, rfl, _, _, rfl, rfl, cw (wd_ud w1.wd) (wd_ud w2.wn), ?_⟩
    exact mk_q (Int.mul_ne_zero (rq_ne _) (num_ne ne)) (wd_ud2 w1.wd w2.wn) fun z H' S hz => q z H' (S1.trans S) (by rw [q_div _ _ ne] at hz; exact hz)
theorem ok_Ratio___add__ {fd : FuncData} (F : Fun K "__add__" "Ratio.__add__" s_Ratio___add__ a.Ratio___add__ fd) (T : Txt K mg a)
    {fd_Ratio___init__ : FuncData} (G_Ratio___init__ : FnOk P w K mg base CX0 2 a.Ratio___init__ fd_Ratio___init__ ["self", "number", "under"] (spInit K a.Ratio)) (b_Ratio___init__ : Binds K fd_Ratio___init__ ["self", "number", "under"] [])
    {ds_Ratio___init__ : List Value} (d_Ratio___init__ : Vals [.int 1] ds_Ratio___init__ ∧ Binds K fd_Ratio___init__ ["self", "number", "under"] ds_Ratio___init__)
    {fd_as_ratio : FuncData} (G_as_ratio : FnOk P w K mg base CX0 4 a.as_ratio fd_as_ratio ["number"] (spAs K a.Ratio)) (b_as_ratio : Binds K fd_as_ratio ["number"] [])
    {fd_is_number : FuncData} (G_is_number : FnOk P w K mg base CX0 2 a.is_number fd_is_number ["value"] (spIsNum K a.Ratio)) (b_is_number : Binds K fd_is_number ["value"] []) :
    FnOk P w K mg base CX0 5 a.Ratio___add__ fd ["self", "other"] (spBin a.Ratio gAdd) := by
  refine F.ok sc_Ratio___add__ (fun vs H Q E h => ?len) (fun cdv A outer s H vs Q E hr h => ⟨_,
      (pss_cons (ps_if (pt_not (pt_val (pe_call G_is_number (hr.mono (by omega)) (by rfl) T.g_is_number T.k_is_number b_is_number .nil pass0 (pa_cons (pv 1) pa_nil)))) (pss_one ps_never) pss_nil)
      (pss_cons (ps_set (i := 2) sc_Ratio___add__.nd rfl (Or.inl rfl) (pe_call G_as_ratio (hr.mono (by omega)) (by rfl) T.g_as_ratio T.k_as_ratio b_as_ratio .nil pass0 (pa_cons (pv 1) pa_nil)))
      (pss_one (ps_ret (pe_make T.m_Ratio G_Ratio___init__ (hr.mono (by omega)) (by rfl) T.g_Ratio b_Ratio___init__ .nil pass0 (pa_cons (pe_op op_add (pe_op op_mulW (pe_fld (pv 0) rfl) (pe_fld (pv 2) rfl)) (pe_op op_mulW (pe_fld (pv 2) rfl) (pe_fld (pv 0) rfl))) (pa_cons (pe_op op_mulW (pe_fld (pv 0) rfl) (pe_fld (pv 2) rfl)) pa_nil))))))), ?body⟩)
  case len => obtain ⟨v, w, x, y, rfl, _⟩ := h; rfl
  case body =>
    obtain ⟨v, w, qx, qy, rfl, hv, hw, w1, w2, q⟩ := h
    obtain ⟨ty, b1, b2, b3, t1, k1, k2, k3, e⟩ := numTy T hw
    refine ⟨_, rfl, w, ty, b1, b2, b3, rfl, t1, k1, k2, k3, _, rfl, ?_⟩
    rw [e]
    refine iteF ?_
    refine ⟨_, rfl, w, _, _, rfl, hw, fun r H1 S1 hr1 => ?_⟩
    obtain ⟨x, dx, rfl, hx⟩ := RatAt.same S1 hv
    obtain ⟨y, dy, rfl, hy⟩ := hr1
    refine ⟨_, rfl, _, _, _, _, _, rfl, hx, T.cl, T.nN, rfl, _, rfl, _, _, _, _, _, rfl, hy, T.cl, T.nU, rfl, _, _, rfl, rfl, cw (wd_ud w1.wn) (wd_ud w2.wd), ?_⟩
    refine ⟨_, rfl, _, _, _, _, _, rfl, hy, T.cl, T.nN, rfl, _, rfl, _, _, _, _, _, rfl, hx, T.cl, T.nU, rfl, _, _, rfl, rfl, cw (wd_ud w2.wn) (wd_ud w1.wd), _, _, rfl, rfl, ?_⟩
    refine ⟨_, rfl, _, _, _, _, _, rfl, hx, T.cl, T.nU, rfl, _, rfl, _, _, _, _, _, rfl, hy, T.cl, T.nU, rfl, _, _, rfl, rfl, cw (wd_ud w1.wd) (wd_ud w2.wd), ?_⟩
    exact mk_q (prod_ne _ _) (wd_ud2 w1.wd w2.wd) fun z H' S hz => q z H' (S1.trans S) (by rw [q_add] at hz; exact hz)
theorem ok_Ratio___sub__ {fd : FuncData} (F : Fun K "__sub__" "Ratio.__sub__" s_Ratio___sub__ a.Ratio___sub__ fd) (T : Txt K mg a)
    {fd_Ratio___init__ : FuncData} (G_Ratio___init__ : FnOk P w K mg base CX0 2 a.Ratio___init__ fd_Ratio___init__ ["self", "number", "under"] (spInit K a.Ratio)) (b_Ratio___init__ : Binds K fd_Ratio___init__ ["self", "number", "under"] [])
    {ds_Ratio___init__ : List Value} (d_Ratio___init__ : Vals [.int 1] ds_Ratio___init__ ∧ Binds K fd_Ratio___init__ ["self", "number", "under"] ds_Ratio___init__)
    {fd_difference : FuncData} (G_difference : FnOk P w K mg base CX0 1 a.difference fd_difference ["one", "other"] (spDiff a.Ratio)) (b_difference : Binds K fd_difference ["one", "other"] [])
    {fd_as_ratio : FuncData} (G_as_ratio : FnOk P w K mg base CX0 4 a.as_ratio fd_as_ratio ["number"] (spAs K a.Ratio)) (b_as_ratio : Binds K fd_as_ratio ["number"] [])
    {fd_is_number : FuncData} (G_is_number : FnOk P w K mg base CX0 2 a.is_number fd_is_number ["value"] (spIsNum K a.Ratio)) (b_is_number : Binds K fd_is_number ["value"] []) :
    FnOk P w K mg base CX0 5 a.Ratio___sub__ fd ["self", "other"] (spBin a.Ratio gSub) := by
  refine F.ok sc_Ratio___sub__ (fun vs H Q E h => ?len) (fun cdv A outer s H vs Q E hr h => ⟨_,
      (pss_cons (ps_if (pt_not (pt_val (pe_call G_is_number (hr.mono (by omega)) (by rfl) T.g_is_number T.k_is_number b_is_number .nil pass0 (pa_cons (pv 1) pa_nil)))) (pss_one ps_never) pss_nil)
      (pss_cons (ps_set (i := 2) sc_Ratio___sub__.nd rfl (Or.inl rfl) (pe_call G_as_ratio (hr.mono (by omega)) (by rfl) T.g_as_ratio T.k_as_ratio b_as_ratio .nil pass0 (pa_cons (pv 1) pa_nil)))
      (pss_one (ps_ret (pe_make T.m_Ratio G_Ratio___init__ (hr.mono (by omega)) (by rfl) T.g_Ratio b_Ratio___init__ .nil pass0 (pa_cons (pe_call G_difference (hr.mono (by omega)) (by rfl) T.g_difference T.k_difference b_difference .nil pass0 (pa_cons (pv 0) (pa_cons (pv 2) pa_nil))) (pa_cons (pe_op op_mulW (pe_fld (pv 0) rfl) (pe_fld (pv 2) rfl)) pa_nil))))))), ?body⟩)
  case len => obtain ⟨v, w, x, y, rfl, _⟩ := h; rfl
  case body =>
    obtain ⟨v, w, qx, qy, rfl, hv, hw, w1, w2, q⟩ := h
    obtain ⟨ty, b1, b2, b3, t1, k1, k2, k3, e⟩ := numTy T hw
    refine ⟨_, rfl, w, ty, b1, b2, b3, rfl, t1, k1, k2, k3, _, rfl, ?_⟩
    rw [e]
    refine iteF ?_
    refine ⟨_, rfl, w, _, _, rfl, hw, fun r H1 S1 hr1 => ?_⟩
    obtain ⟨x, dx, rfl, hx⟩ := RatAt.same S1 hv
    obtain ⟨y, dy, rfl, hy⟩ := hr1
    refine ⟨_, rfl, _, rfl, _, _, _, _, _, _, rfl, ⟨x, dx, rfl, hx⟩, ⟨y, dy, rfl, hy⟩, w1.wn, w1.wd, w2.wn, w2.wd, ?_⟩
    refine ⟨_, rfl, _, _, _, _, _, rfl, hx, T.cl, T.nU, rfl, _, rfl, _, _, _, _, _, rfl, hy, T.cl, T.nU, rfl, _, _, rfl, rfl, cw (wd_ud w1.wd) (wd_ud w2.wd), ?_⟩
    exact mk_q (prod_ne _ _) (wd_ud2 w1.wd w2.wd) fun z H' S hz => q z H' (S1.trans S) (by rw [q_sub] at hz; exact hz)
theorem ok_Ratio___mul__ {fd : FuncData} (F : Fun K "__mul__" "Ratio.__mul__" s_Ratio___mul__ a.Ratio___mul__ fd) (T : Txt K mg a)
    {fd_Ratio___init__ : FuncData} (G_Ratio___init__ : FnOk P w K mg base CX0 2 a.Ratio___init__ fd_Ratio___init__ ["self", "number", "under"] (spInit K a.Ratio)) (b_Ratio___init__ : Binds K fd_Ratio___init__ ["self", "number", "under"] [])
    {ds_Ratio___init__ : List Value} (d_Ratio___init__ : Vals [.int 1] ds_Ratio___init__ ∧ Binds K fd_Ratio___init__ ["self", "number", "under"] ds_Ratio___init__)
    {fd_as_ratio : FuncData} (G_as_ratio : FnOk P w K mg base CX0 4 a.as_ratio fd_as_ratio ["number"] (spAs K a.Ratio)) (b_as_ratio : Binds K fd_as_ratio ["number"] [])
    {fd_is_number : FuncData} (G_is_number : FnOk P w K mg base CX0 2 a.is_number fd_is_number ["value"] (spIsNum K a.Ratio)) (b_is_number : Binds K fd_is_number ["value"] []) :
    FnOk P w K mg base CX0 5 a.Ratio___mul__ fd ["self", "other"] (spBin a.Ratio gMul) := by
  refine F.ok sc_Ratio___mul__ (fun vs H Q E h => ?len) (fun cdv A outer s H vs Q E hr h => ⟨_,
      (pss_cons (ps_if (pt_not (pt_val (pe_call G_is_number (hr.mono (by omega)) (by rfl) T.g_is_number T.k_is_number b_is_number .nil pass0 (pa_cons (pv 1) pa_nil)))) (pss_one ps_never) pss_nil)
      (pss_cons (ps_set (i := 2) sc_Ratio___mul__.nd rfl (Or.inl rfl) (pe_call G_as_ratio (hr.mono (by omega)) (by rfl) T.g_as_ratio T.k_as_ratio b_as_ratio .nil pass0 (pa_cons (pv 1) pa_nil)))
      (pss_one (ps_ret (pe_make T.m_Ratio G_Ratio___init__ (hr.mono (by omega)) (by rfl) T.g_Ratio b_Ratio___init__ .nil pass0 (pa_cons (pe_op op_mulW (pe_fld (pv 0) rfl) (pe_fld (pv 2) rfl)) (pa_cons (pe_op op_mulW (pe_fld (pv 0) rfl) (pe_fld (pv 2) rfl)) pa_nil))))))), ?body⟩)
  case len => obtain ⟨v, w, x, y, rfl, _⟩ := h; rfl
  case body =>
    obtain ⟨v, w, qx, qy, rfl, hv, hw, w1, w2, q⟩ := h
    obtain ⟨ty, b1, b2, b3, t1, k1, k2, k3, e⟩ := numTy T hw
    refine ⟨_, rfl, w, ty, b1, b2, b3, rfl, t1, k1, k2, k3, _, rfl, ?_⟩
    rw [e]
    refine iteF ?_
    refine ⟨_, rfl, w, _, _, rfl, hw, fun r H1 S1 hr1 => ?_⟩
    obtain ⟨x, dx, rfl, hx⟩ := RatAt.same S1 hv
    obtain ⟨y, dy, rfl, hy⟩ := hr1
    refine ⟨_, rfl, _, _, _, _, _, rfl, hx, T.cl, T.nN, rfl, _, rfl, _, _, _, _, _, rfl, hy, T.cl, T.nN, rfl, _, _, rfl, rfl, cw (wd_ud w1.wn) (wd_ud w2.wn), ?_⟩
    refine ⟨_, rfl, _, _, _, _, _, rfl, hx, T.cl, T.nU, rfl, _, rfl, _, _, _, _, _, rfl, hy, T.cl, T.nU, rfl, _, _, rfl, rfl, cw (wd_ud w1.wd) (wd_ud w2.wd), ?_⟩
    exact mk_q (prod_ne _ _) (wd_ud2 w1.wd w2.wd) fun z H' S hz => q z H' (S1.trans S) (by rw [q_mul] at hz; exact hz)
theorem ok_Ratio___eq__ {fd : FuncData} (F : Fun K "__eq__" "Ratio.__eq__" s_Ratio___eq__ a.Ratio___eq__ fd) (T : Txt K mg a) :
    FnOk P w K mg base CX0 1 a.Ratio___eq__ fd ["self", "other"] (spEqq K a.Ratio) := by
  refine F.ok sc_Ratio___eq__ (fun vs H Q E h => ?len) (fun cdv A outer s H vs Q E hr h => ⟨_,
      (pss_one (ps_ret (pe_and (pe_callB call_isi (by rfl) T.n_isinstance (by decide +kernel) (pa_cons (pv 1) (pa_cons (pe_glob (v := .ref a.Ratio) (by rfl) T.g_Ratio rfl) pa_nil))) (pe_and (pe_cmpR op_eq (pe_fld (pv 0) rfl) (pe_fld (pv 1) rfl) (nomark _)) (pe_one (pe_cmpR op_eq (pe_fld (pv 0) rfl) (pe_fld (pv 1) rfl) (nomark _))))))), ?body⟩)
  case len => obtain ⟨v, w, n, u, rfl, _⟩ := h; rfl
  case body =>
    obtain ⟨v, w, n, u, rfl, ⟨x, dx, rfl, hx⟩, h⟩ := h
    rcases h with ⟨m, t, hw, q⟩ | ⟨⟨t, ty, k⟩, q⟩
    · refine ⟨_, rfl, w, _, _, _, true, rfl, .own _, ratTy T hw, T.ri.ks, true, rfl, iteT ?_⟩
      obtain ⟨y, dy, rfl, hy⟩ := hw
      refine ⟨_, rfl, _, _, _, _, _, rfl, hx, T.cl, T.nN, rfl, _, rfl, _, _, _, _, _, rfl, hy, T.cl, T.nN, rfl, rfl, _, rfl, ite2 (fun c => ?_) (fun c => ?_)⟩
      · have e1 : n = m := by
          have z := of_decide_eq_true c
          injection z with z
        refine ⟨_, rfl, _, _, _, _, _, rfl, hx, T.cl, T.nU, rfl, _, rfl, _, _, _, _, _, rfl, hy, T.cl, T.nU, rfl, rfl, ?_⟩
        have e2 : decide (V.int u = V.int t) = decide (n = m ∧ u = t) := by
          by_cases e : u = t
          · rw [decide_eq_true (show n = m ∧ u = t from ⟨e1, e⟩), decide_eq_true (by rw [e])]
          · rw [decide_eq_false (fun z : n = m ∧ u = t => e z.2), decide_eq_false (fun z => e (V.int.inj z))]
        rw [e2]
        exact q
      · have e1 : decide (n = m ∧ u = t) = false := decide_eq_false fun z => c (decide_eq_true (by rw [z.1]))
        rw [e1] at q
        exact q
    · refine ⟨_, rfl, w, _, _, _, false, rfl, .own _, ty, k, false, rfl, iteF q⟩
end
end My

namespace My
open PySem PySem.Spec PyProof.Rows L2 G
abbrev s__law_common : Stmt := topS 32
theorem sc__law_common : FnScope ["_law_one", "_law_other", "_law_left", "_law_right_here"] ["_law_one", "_law_other"] (defScope s__law_common) := ⟨rfl, rfl, rfl, by decide +kernel, rfl, by decide +kernel, by decide +kernel⟩

abbrev s__law_pair : Stmt := topS 33
theorem sc__law_pair : FnScope ["_law_above", "_law_under", "_law_by"] ["_law_above", "_law_under"] (defScope s__law_pair) := ⟨rfl, rfl, rfl, by decide +kernel, rfl, by decide +kernel, by decide +kernel⟩

abbrev s__law_spot : Stmt := topS 34
theorem sc__law_spot : FnScope ["_law_x", "_law_y", "_law_d", "_law_by"] ["_law_x", "_law_y", "_law_d"] (defScope s__law_spot) := ⟨rfl, rfl, rfl, by decide +kernel, rfl, by decide +kernel, by decide +kernel⟩

abbrev s__law_pair_of : Stmt := topS 37
theorem sc__law_pair_of : FnScope ["_law_made"] ["_law_made"] (defScope s__law_pair_of) := ⟨rfl, rfl, rfl, by decide +kernel, rfl, by decide +kernel, by decide +kernel⟩

/-- a pair of ints -/
def PairAt (H : Hp) (v : V) (n u : Int) : Prop := ∃ p, v = .ref p ∧ H p = some (.tup [.int n, .int u])
theorem PairAt.same {H H' : Hp} {v : V} {n u : Int} (S : Same H H') (h : PairAt H v n u) : PairAt H' v n u := let ⟨p, e, h1⟩ := h; ⟨p, e, S _ _ h1⟩
theorem PairAt.go {p : Addr} {k : Nat} {H H' : Hp} {v : V} {n u : Int} (g : Go p k H H') (h : PairAt H v n u) (hp : PotAt H p 0 ∨ v ≠ .ref p) : PairAt H' v n u := by
  obtain ⟨q, rfl, e⟩ := h
  refine ⟨q, rfl, g.at e fun z => ?_⟩
  rcases hp with ⟨x, y, w, f, _⟩ | hp
  · rw [z, f] at e
    cases e
  · exact hp (by rw [z])
def spCommon : Sp := fun vs H Q _ => ∃ a b : Int, vs = [.int a, .int b] ∧ Q (.int ((Nat.gcd a.natAbs b.natAbs : Nat) : Int)) H
abbrev PairQ (H : Hp) (v : V) (q : Rat) : Prop := PairAt H v q.num (q.den : Int)
/-- a dot -/
def SpAt (H : Hp) (v : V) (X Y : Rat) : Prop := ∃ p x y d, v = .ref p ∧ H p = some (.tup [.int x, .int y, .int d]) ∧ Can x y d X Y
theorem SpAt.same {H H' : Hp} {v : V} {X Y : Rat} (S : Same H H') (h : SpAt H v X Y) : SpAt H' v X Y := let ⟨p, x, y, d, e, h1, c⟩ := h; ⟨p, x, y, d, e, S _ _ h1, c⟩
def spPair : Sp := fun vs H Q _ => ∃ a b : Int, vs = [.int a, .int b] ∧ b ≠ 0 ∧ Ud b ∧ ∀ p H', H p = none → Same H H' → PairQ H' (.ref p) (Rat.divInt a b) → Q (.ref p) H'
def spSpot : Sp := fun vs H Q _ => ∃ x y d : Int, vs = [.int x, .int y, .int d] ∧ d ≠ 0 ∧ Ud d ∧ ∀ p H', H p = none → Same H H' → SpAt H' (.ref p) (Rat.divInt x d) (Rat.divInt y d) → Q (.ref p) H'
def spPo (C : Addr) : Sp := fun vs H Q _ => ∃ v n u, vs = [v] ∧ RatAt C H v n u ∧ ∀ p H', H p = none → Same H H' → PairAt H' (.ref p) n u → Q (.ref p) H'
section
variable {P : Program} {w : World} {K : PySem.W.Frag} {mg : Str → Option Value} {base : Heap} {a : Ad}
theorem ok__law_common {fd : FuncData} (F : Fun K "_law_common" "_law_common" s__law_common a._law_common fd) (T : Txt K mg a) :
    Fn P w K mg base CX0 1 a._law_common fd ["_law_one", "_law_other"] spCommon := by
  refine ok F sc__law_common (fun vs H Q E h => ?len) (fun cdv A outer s H vs Q E hq hr h => ⟨_,
      (pss_cons (ps_par (i := 2) (j := 3) (by rfl) sc__law_common.nd rfl rfl (by decide) rfl rfl (pa_cons (pe_callB call_abs (by rfl) T.n_abs (by decide +kernel) (pa_cons (pe_callTy call_int1 (by rfl) T.n_int (by decide +kernel) (pa_cons (pv 0) pa_nil)) pa_nil)) (pa_cons (pe_callB call_abs (by rfl) T.n_abs (by decide +kernel) (pa_cons (pe_callTy call_int1 (by rfl) T.n_int (by decide +kernel) (pa_cons (pv 1) pa_nil)) pa_nil)) pa_nil)) (by rfl))
      (pss_cons (ps_while PassesOwn.never (pt_cmpR op_gt (pv 3) pe_int (nomark _)) (pss_one (ps_par (i := 2) (j := 3) (by rfl) sc__law_common.nd rfl rfl (by decide) rfl rfl (pa_cons (pv 3) (pa_cons (pe_op op_modN (pe_callTy call_int1 (by rfl) T.n_int (by decide +kernel) (pa_cons (pv 2) pa_nil)) (pe_callTy call_int1 (by rfl) T.n_int (by decide +kernel) (pa_cons (pv 3) pa_nil))) pa_nil)) (by rfl))))
      (pss_one (ps_ret (pv 2))))), ?body⟩)
  case len => obtain ⟨x, y, rfl, _⟩ := h; rfl
  case body =>
    obtain ⟨x, y, rfl, q⟩ := h
    refine ⟨_, rfl, .inl ⟨_, rfl, _, rfl, _, rfl, .inl ⟨_, rfl, _, rfl, _, _, rfl, ?_⟩⟩⟩
    refine while_by (fun σ' H' => ∃ l r : Int, σ' = [some (.int x), some (.int y), some (.int l), some (.int r)] ∧ 0 ≤ l ∧ 0 ≤ r ∧ Nat.gcd l.natAbs r.natAbs = Nat.gcd x.natAbs y.natAbs ∧ H' = H)
      (fun σ' _ => match σ' with | [_, _, _, some (.int r)] => r.toNat | _ => 0) ⟨_, _, rfl, ?_, ?_, ?_, rfl⟩ ?_ ?_
    · show (0 : Int) ≤ if x < 0 then -x else x
      split <;> omega
    · show (0 : Int) ≤ if y < 0 then -y else y
      split <;> omega
    · show Nat.gcd (if x < 0 then -x else x).natAbs (if y < 0 then -y else y).natAbs = _
      have e1 : (if x < 0 then -x else x).natAbs = x.natAbs := by split <;> omega
      have e2 : (if y < 0 then -y else y).natAbs = y.natAbs := by split <;> omega
      rw [e1, e2]
    · rintro σ' H' ⟨l, r, rfl, hl, hr0, hg, rfl⟩
      refine ⟨_, rfl, _, _, rfl, rfl, _, rfl, ite2 (fun c => ?_) (fun c => ?_)⟩
      · have c0 : 0 < r := of_decide_eq_true c
        refine ⟨_, rfl, _, rfl, .inl ⟨_, rfl, _, rfl, .inl ⟨_, rfl, _, _, rfl, rfl, (by show r ≠ 0; omega), _, _, rfl, ⟨_, _, rfl, hr0, ?_, ?_, rfl⟩, ?_⟩⟩⟩
        · exact Int.fmod_nonneg_of_pos _ c0
        · rw [gcd_step hl c0]
          exact hg
        · show (l.fmod r).toNat < r.toNat
          have h1 := Int.fmod_lt_of_pos l c0
          have h2 := Int.fmod_nonneg_of_pos l c0
          omega
      · have c0 : r = 0 := by
          have : ¬ 0 < r := fun z => c (decide_eq_true z)
          omega
        subst c0
        have e : ((Nat.gcd x.natAbs y.natAbs : Nat) : Int) = l := by
          rw [← hg, show (0 : Int).natAbs = 0 from rfl, Nat.gcd_zero_right]
          omega
        rw [e] at q
        exact ⟨_, rfl, q⟩
    · rintro σ' H' Q1 Q2 imp ⟨v, e1, i, j, e2, e3, k, e4, z⟩
      exact ⟨v, e1, i, j, e2, e3, k, e4, imp _ _ z⟩
theorem ok__law_pair {fd : FuncData} (F : Fun K "_law_pair" "_law_pair" s__law_pair a._law_pair fd) (T : Txt K mg a)
    {fd__law_common : FuncData} (G__law_common : Fn P w K mg base CX0 1 a._law_common fd__law_common ["_law_one", "_law_other"] spCommon) (b__law_common : Binds K fd__law_common ["_law_one", "_law_other"] []) :
    Fn P w K mg base CX0 2 a._law_pair fd ["_law_above", "_law_under"] spPair := by
  refine ok F sc__law_pair (fun vs H Q E h => ?len) (fun cdv A outer s H vs Q E hq hr h => ⟨_,
      (pss_cons (ps_set (i := 2) sc__law_pair.nd rfl (Or.inl rfl) (pe_fn G__law_common hq (hr.mono (by omega)) (by rfl) T.g__law_common T.k__law_common b__law_common .nil pass0 (pa_cons (pv 0) (pa_cons (pv 1) pa_nil))))
      (pss_cons (ps_set (i := 2) sc__law_pair.nd rfl (Or.inl rfl) (pe_ifExp (pt_cmpR op_lt (pv 1) pe_int (nomark _)) (pe_un un_neg (pv 2)) (pv 2)))
      (pss_one (ps_ret (pe_tup (pa_cons (pe_op op_fdivZ (pv 0) (pv 2)) (pa_cons (pe_op op_fdivZ (pv 1) (pv 2)) pa_nil))))))), ?body⟩)
  case len => obtain ⟨x, y, rfl, _⟩ := h; rfl
  case body =>
    obtain ⟨x, y, rfl, h0, h1, q⟩ := h
    have hb : byOf x y ≠ 0 := byOf_ne h0
    have hl : (byOf x y).natAbs.log2 < 9000 := log_of (show (byOf x y).natAbs < 2 ^ 8000 from Nat.lt_of_le_of_lt (byOf_le h0) h1)
    have fin : ∀ g : Int, g = byOf x y → ∀ p, H p = none → Q (.ref p) (upd H p (.tup [.int (x.fdiv g), .int (y.fdiv g)])) := fun g e p hp => by
      refine q p _ hp (same_new hp) ⟨p, rfl, ?_⟩
      rw [e, ← (rq h0).1, ← (rq h0).2]
      exact upd_same
    refine ⟨_, rfl, _, rfl, x, y, rfl, _, rfl, _, _, rfl, rfl, _, rfl, ite2 (fun c => ?_) (fun c => ?_)⟩
    · have e : -((Nat.gcd x.natAbs y.natAbs : Nat) : Int) = byOf x y := by
        unfold byOf
        rw [if_pos (of_decide_eq_true c)]
      refine ⟨_, rfl, _, rfl, ?_⟩
      refine ⟨_, rfl, _, rfl, _, _, rfl, rfl, ⟨by rw [e]; exact hb, by rw [e]; exact hl⟩, _, rfl, _, rfl, _, _, rfl, rfl, ⟨by rw [e]; exact hb, by rw [e]; exact hl⟩, (by show 2 ≤ sizeLine; decide), ?_⟩
      exact fin _ e
    · have e : ((Nat.gcd x.natAbs y.natAbs : Nat) : Int) = byOf x y := by
        unfold byOf
        rw [if_neg fun z => c (decide_eq_true z)]
      refine ⟨_, rfl, ?_⟩
      refine ⟨_, rfl, _, rfl, _, _, rfl, rfl, ⟨by rw [e]; exact hb, by rw [e]; exact hl⟩, _, rfl, _, rfl, _, _, rfl, rfl, ⟨by rw [e]; exact hb, by rw [e]; exact hl⟩, (by show 2 ≤ sizeLine; decide), ?_⟩
      exact fin _ e
theorem ok__law_spot {fd : FuncData} (F : Fun K "_law_spot" "_law_spot" s__law_spot a._law_spot fd) (T : Txt K mg a)
    {fd__law_common : FuncData} (G__law_common : Fn P w K mg base CX0 1 a._law_common fd__law_common ["_law_one", "_law_other"] spCommon) (b__law_common : Binds K fd__law_common ["_law_one", "_law_other"] []) :
    Fn P w K mg base CX0 2 a._law_spot fd ["_law_x", "_law_y", "_law_d"] spSpot := by
  refine ok F sc__law_spot (fun vs H Q E h => ?len) (fun cdv A outer s H vs Q E hq hr h => ⟨_,
      (pss_cons (ps_set (i := 3) sc__law_spot.nd rfl (Or.inl rfl) (pe_fn G__law_common hq (hr.mono (by omega)) (by rfl) T.g__law_common T.k__law_common b__law_common .nil pass0 (pa_cons (pe_fn G__law_common hq (hr.mono (by omega)) (by rfl) T.g__law_common T.k__law_common b__law_common .nil pass0 (pa_cons (pv 0) (pa_cons (pv 1) pa_nil))) (pa_cons (pv 2) pa_nil))))
      (pss_cons (ps_set (i := 3) sc__law_spot.nd rfl (Or.inl rfl) (pe_ifExp (pt_cmpR op_lt (pv 2) pe_int (nomark _)) (pe_un un_neg (pv 3)) (pv 3)))
      (pss_one (ps_ret (pe_tup (pa_cons (pe_op op_fdivZ (pv 0) (pv 3)) (pa_cons (pe_op op_fdivZ (pv 1) (pv 3)) (pa_cons (pe_op op_fdivZ (pv 2) (pv 3)) pa_nil)))))))), ?body⟩)
  case len => obtain ⟨x, y, d, rfl, _⟩ := h; rfl
  case body =>
    obtain ⟨x, y, d, rfl, h0, h1, q⟩ := h
    have hb : byOf3 x y d ≠ 0 := byOf3_ne h0
    have hl : (byOf3 x y d).natAbs.log2 < 9000 := log_of (show (byOf3 x y d).natAbs < 2 ^ 8000 from Nat.lt_of_le_of_lt (byOf3_le h0) h1)
    have fin : ∀ g : Int, g = byOf3 x y d → ∀ p, H p = none → Q (.ref p) (upd H p (.tup [.int (x.fdiv g), .int (y.fdiv g), .int (d.fdiv g)])) := fun g e p hp => by
      refine q p _ hp (same_new hp) ⟨p, _, _, _, rfl, upd_same, ?_⟩
      rw [e]
      exact can_of h0
    have ng : ((((Nat.gcd x.natAbs y.natAbs : Nat) : Int)).natAbs : Nat) = Nat.gcd x.natAbs y.natAbs := rfl
    refine ⟨_, rfl, _, rfl, x, y, rfl, _, rfl, _, d, rfl, ?_⟩
    rw [ng]
    refine ⟨_, rfl, _, _, rfl, rfl, _, rfl, ite2 (fun c => ?_) (fun c => ?_)⟩
    · have e : -((Nat.gcd (Nat.gcd x.natAbs y.natAbs) d.natAbs : Nat) : Int) = byOf3 x y d := by
        unfold byOf3
        rw [if_pos (of_decide_eq_true c)]
      refine ⟨_, rfl, _, rfl, ?_⟩
      refine ⟨_, rfl, _, rfl, _, _, rfl, rfl, ⟨by rw [e]; exact hb, by rw [e]; exact hl⟩, _, rfl, _, rfl, _, _, rfl, rfl, ⟨by rw [e]; exact hb, by rw [e]; exact hl⟩, _, rfl, _, rfl, _, _, rfl, rfl, ⟨by rw [e]; exact hb, by rw [e]; exact hl⟩, (by show 3 ≤ sizeLine; decide), ?_⟩
      exact fin _ e
    · have e : ((Nat.gcd (Nat.gcd x.natAbs y.natAbs) d.natAbs : Nat) : Int) = byOf3 x y d := by
        unfold byOf3
        rw [if_neg fun z => c (decide_eq_true z)]
      refine ⟨_, rfl, ?_⟩
      refine ⟨_, rfl, _, rfl, _, _, rfl, rfl, ⟨by rw [e]; exact hb, by rw [e]; exact hl⟩, _, rfl, _, rfl, _, _, rfl, rfl, ⟨by rw [e]; exact hb, by rw [e]; exact hl⟩, _, rfl, _, rfl, _, _, rfl, rfl, ⟨by rw [e]; exact hb, by rw [e]; exact hl⟩, (by show 3 ≤ sizeLine; decide), ?_⟩
      exact fin _ e
theorem ok__law_pair_of {fd : FuncData} (F : Fun K "_law_pair_of" "_law_pair_of" s__law_pair_of a._law_pair_of fd) (T : Txt K mg a) :
    Fn P w K mg base CX0 1 a._law_pair_of fd ["_law_made"] (spPo a.Ratio) := by
  refine ok F sc__law_pair_of (fun vs H Q E h => ?len) (fun cdv A outer s H vs Q E hq hr h => ⟨_,
      (pss_one (ps_ret (pe_tup (pa_cons (pe_fld (pv 0) rfl) (pa_cons (pe_fld (pv 0) rfl) pa_nil))))), ?body⟩)
  case len => obtain ⟨v, n, u, rfl, _⟩ := h; rfl
  case body =>
    obtain ⟨v, n, u, rfl, ⟨x, dx, rfl, hx⟩, q⟩ := h
    refine ⟨_, rfl, _, _, _, _, _, rfl, hx, T.cl, T.nN, rfl, _, rfl, _, _, _, _, _, rfl, hx, T.cl, T.nU, rfl, (by show 2 ≤ sizeLine; decide), fun p hp => ?_⟩
    exact q p _ hp (same_new hp) ⟨p, rfl, upd_same⟩
end
end My

namespace My
open PySem PySem.Spec PyProof.Rows L2 G
abbrev s__law_odd : Stmt := topS 31
theorem sc__law_odd : FnScope ["_law_pot_here", "_law_some"] ["_law_pot_here"] (defScope s__law_odd) := ⟨rfl, rfl, rfl, by decide +kernel, rfl, by decide +kernel, by decide +kernel⟩

theorem gd_dict1 {n k N : Nat} {x : Str} {d : PyData} (g : Gd n k d) (hx : gdB 8 0 (.str x) = true) (hN : 8 + n + 2 ≤ N) : Gd N (k + 1) (.dict [(.str x, d)]) := by
  have h := gdB_ok hx
  refine ⟨?_, ?_, ?_, ?_⟩
  · simp only [PyData.leavesShort, PyData.leavesShortKv, Bool.and_true, Bool.and_eq_true]; exact ⟨h.short, g.short⟩
  · simp only [PyData.showable, PyData.showableKv, Bool.and_true, Bool.and_eq_true]; exact ⟨trivial, g.show_⟩
  · simp only [PyData.depth, PyData.depthKv]; have := g.depth; omega
  · simp only [PyData.weight, PyData.weightKv]; have := g.weight; have := h.weight; simp only [PyData.weight] at this; omega
/-- what an odd value is: short data, an int that is not too long -/
def OddG (d : PyData) : Prop := Gd 60 4 d ∧ ∀ i, d = .int i → -(10 ^ 9) ≤ i ∧ i ≤ 10 ^ 9
def spOdd0 : Sp := fun vs H Q _ => ∃ (p : Addr) (n : Nat), vs = [.ref p] ∧ PotAt H p n ∧ n ≤ 100000 ∧ ∀ v H', (∀ N, Tr N H → Is N H' OddG v) → Go p (n + 1) H H' → Q v H'
local macro_rules | `(tactic| walk_at "gd") => `(tactic| exact gdB_ok (by decide +kernel))
local macro_rules | `(tactic| walk_at "ev") => `(tactic| repeat (first
  | exact eva_nil
  | apply eva_cons
  | exact evg_int (gdB_ok (by decide +kernel))
  | exact evg_str (gdB_ok (by decide +kernel))
  | exact evg_bl (gdB_ok (by decide +kernel))
  | exact evg_non (gdB_ok (by decide +kernel))
  | exact evg_neg (gdB_ok (by decide +kernel))
  | exact evg_pow ⟨by decide, by decide, by decide +kernel⟩ (gdB_ok (by decide +kernel))
  | exact evg_dnew (by assumption) (gdB_ok (by decide +kernel))
  | (apply evg_tup (G' := Gd 8 3); (case h => walk_at "ev"); (case t => assumption); (case hm => decide); (case g => exact fun ds l h => gd_tup h (Nat.le_of_eq l) (by decide)))
  | (apply evg_tup (G' := Gd 3 2); (case h => walk_at "ev"); (case t => assumption); (case hm => decide); (case g => exact fun ds l h => gd_tup h (Nat.le_of_eq l) (by decide)))
  | (apply evg_lst (G' := Gd 8 3); (case h => walk_at "ev"); (case t => assumption); (case hm => decide); (case g => exact fun ds l h => gd_lst h (Nat.le_of_eq l) (by decide)))
  | exact evg_dict1 (G' := Gd 8 3) (by assumption) (fun q H1 S => evg_int (gdB_ok (by decide +kernel))) (fun d g => gd_dict1 g (by decide +kernel) (by decide))))

local macro_rules | `(tactic| walk_at "evz") => `(tactic| repeat (first
  | exact eva_nil
  | apply eva_cons
  | exact evg_int ⟨gdB_ok (by decide +kernel), fun i e => by cases e; decide⟩
  | exact evg_str ⟨gdB_ok (by decide +kernel), fun i e => nomatch e⟩
  | exact evg_bl ⟨gdB_ok (by decide +kernel), fun i e => nomatch e⟩
  | exact evg_non ⟨gdB_ok (by decide +kernel), fun i e => nomatch e⟩
  | exact evg_neg ⟨gdB_ok (by decide +kernel), fun i e => by cases e; decide⟩
  | exact evg_pow ⟨by decide, by decide, by decide +kernel⟩ ⟨gdB_ok (by decide +kernel), fun i e => by cases e; decide⟩
  | exact evg_dnew (by assumption) ⟨gdB_ok (by decide +kernel), fun i e => nomatch e⟩
  | (apply evg_tup (G' := Gd 8 3); (case h => walk_at "ev"); (case t => assumption); (case hm => decide); (case g => exact fun ds l h => ⟨gd_tup h (Nat.le_of_eq l) (by decide), fun i e => nomatch e⟩))
  | (apply evg_tup (G' := Gd 3 2); (case h => walk_at "ev"); (case t => assumption); (case hm => decide); (case g => exact fun ds l h => ⟨gd_tup h (Nat.le_of_eq l) (by decide), fun i e => nomatch e⟩))
  | (apply evg_lst (G' := Gd 8 3); (case h => walk_at "ev"); (case t => assumption); (case hm => decide); (case g => exact fun ds l h => ⟨gd_lst h (Nat.le_of_eq l) (by decide), fun i e => nomatch e⟩))
  | exact evg_dict1 (G' := Gd 8 3) (by assumption) (fun q H1 S => evg_int (gdB_ok (by decide +kernel))) (fun d g => ⟨gd_dict1 g (by decide +kernel) (by decide), fun i e => nomatch e⟩)))
section
variable {P : Program} {w : World} {K : PySem.W.Frag} {mg : Str → Option Value} {base : Heap} {a : Ad}
theorem ok__law_odd {fd : FuncData} (F : Fun K "_law_odd" "_law_odd" s__law_odd a._law_odd fd) (T : Txt K mg a)
    {fd__law_of : FuncData} (G__law_of : Fn P w K mg base CX0 2 a._law_of fd__law_of ["_law_pot_here", "_law_some"] spOf) (b__law_of : Binds K fd__law_of ["_law_pot_here", "_law_some"] []) :
    Fn P w K mg base CX0 3 a._law_odd fd ["_law_pot_here"] spOdd0 := by
  refine ok F sc__law_odd (fun vs H Q E h => ?len) (fun cdv A outer s H vs Q E hq hr h => ⟨_,
      (pss_cons (ps_set (i := 1) sc__law_odd.nd rfl (Or.inl rfl) (pe_lstS (pa_cons pe_non (pa_cons pe_bl (pa_cons pe_bl (pa_cons pe_int (pa_cons pe_int (pa_cons (pe_un un_neg pe_int) (pa_cons pe_int (pa_cons pe_int (pa_cons pe_str (pa_cons pe_str (pa_cons pe_str (pa_cons pe_str (pa_cons (pe_tup pa_nil) (pa_cons (pe_lstS pa_nil) (pa_cons pe_dnewK (pa_cons (pe_tup (pa_cons pe_int pa_nil)) (pa_cons (pe_tup (pa_cons (pe_tup pa_nil) pa_nil)) (pa_cons (pe_lstS (pa_cons pe_int pa_nil)) (pa_cons (pe_tup (pa_cons pe_str (pa_cons pe_int pa_nil))) (pa_cons (pe_disp (pps_cons pe_str pe_int pps_nil) (by rfl) (by rfl) (fun z => by cases z) (by decide)) pa_nil))))))))))))))))))))))
      (pss_one (ps_ret (pe_fn G__law_of hq (hr.mono (by omega)) (by rfl) T.g__law_of T.k__law_of b__law_of .nil pass0 (pa_cons (pv 0) (pa_cons (pe_op op_cat (pv 1) (pe_lstS (pa_cons (pe_tup (pa_cons (pe_tup (pa_cons pe_str pa_nil)) pa_nil)) (pa_cons (pe_tup (pa_cons pe_str (pa_cons pe_str pa_nil))) (pa_cons (pe_tup (pa_cons pe_int (pa_cons pe_int pa_nil))) (pa_cons (pe_tup (pa_cons (pe_tup (pa_cons pe_int (pa_cons pe_int pa_nil))) pa_nil)) (pa_cons (pe_tup (pa_cons pe_non pa_nil)) (pa_cons (pe_op op_powW pe_int pe_int) (pa_cons pe_str (pa_cons (pe_tup (pa_cons pe_bl pa_nil)) (pa_cons (pe_tup (pa_cons pe_int (pa_cons (pe_un un_neg pe_int) (pa_cons pe_int pa_nil)))) pa_nil))))))))))) pa_nil)))))), ?body⟩)
  case len => obtain ⟨p, n, rfl, _⟩ := h; rfl
  case body =>
    obtain ⟨p, n, rfl, pot, hn, q⟩ := h
    have t : Tr (fun b => H b ≠ none) H := fun _ h => h
    refine s_set (eva_list (G := OddG) (m := 20) t ?ev1 (by decide) fun l xs H1 S1 nl hl sl ll hx => ?_)
    case ev1 => walk_at "evz"
    have t1 : Tr (fun b => H b ≠ none) H1 := t.same S1
    refine ⟨_, rfl, _, rfl, ?_⟩
    refine eva_list (G := OddG) (m := 9) t1 ?ev2 (by decide) fun l2 ys H2 S2 nl2 hl2 sl2 ll2 hy => ?_
    case ev2 => walk_at "evz"
    refine ⟨_, _, _, _, rfl, rfl, S2 _ _ hl, hl2, by rw [ll, ll2]; decide, fun l3 n3 => ?_⟩
    have pot3 : PotAt (upd H2 l3 (.lst (xs ++ ys))) p n := ((pot.same S1).same S2).same (same_new n3)
    have n3p : l3 ≠ p := fun e => by
      rw [e] at n3
      exact ((pot.same S1).same S2).has n3
    refine ⟨p, l3, n, xs ++ ys, rfl, n3p, pot3, hn, upd_same, (by intro e; have z := congrArg List.length e; rw [List.length_append, ll, ll2] at z; exact absurd z (by decide)), by rw [List.length_append, ll, ll2]; decide, fun x H4 hm g => ?_⟩
    refine q x H4 (fun N tN => ?_) (Go.of ((S1.trans S2).trans (same_new n3)) g)
    have hx3 : Is (fun b => H b ≠ none) (upd H2 l3 (.lst (xs ++ ys))) OddG x := by
      rcases List.mem_append.mp hm with z | z
      · exact ((hx x z).same S2).same (same_new n3)
      · exact (hy x z).same (same_new n3)
    exact (g.is pot.has hx3).less tN
end
end My

namespace My
open PySem PySem.Spec PyProof.Rows L2 G
theorem raise_told {H1 : Hp} {C : Addr} {K : PySem.W.Frag} {w : V} {Q : XK} (T : EC K C) (q : ∀ d H', Same H1 H' → H' d = some (.xd [("value", w)]) → Q (.ref C) (some d) H') : ([w] : List V).length ≤ 1000 ∧ ∀ a, H1 a = none → spErrInit K (.ref a :: ([w] ++ [])) (upd H1 a (exo a C none))
    (fun v H2 => v = .non ∧ ∃ (d : Addr) (fs : List (Str × V)), H2 a = some (exo a C (some d)) ∧ H2 d = some (exd d fs) ∧ H1 d = none ∧ Q (.ref C) (some d) (upd (del H2 a) d (.xd fs))) (fun _ _ _ => False) := by
  refine ⟨(by show 1 ≤ 1000; decide), fun e he => ⟨e, C, w, rfl, T.ox, T.nv, upd_same, fun d hd hne => ⟨rfl, d, [("value", w)], upd_same, ?_, ?_, ?_⟩⟩⟩
  · rw [upd_ne hne]; exact upd_same
  · rw [upd_ne hne] at hd
    exact hd
  · refine q d _ (fun b o z => ?_) upd_same
    have nd : b ≠ d := by
      rw [upd_ne hne] at hd
      exact ne_of_none z hd
    have ne : b ≠ e := ne_of_none z he
    rw [upd_ne nd, del_ne ne, upd_ne ne, upd_ne nd, upd_ne ne]
    exact z
theorem passF {X : Cx} : Passes (L2.CX X.prog X.w) X E0 := fun _ _ _ _ _ _ _ h => by
  obtain ⟨_, _, _, _, _, _, _, _, _, _, _, _, z⟩ := h
  exact z.elim
abbrev s_check_point : Stmt := topS 21
theorem sc_check_point : FnScope ["value"] ["value"] (defScope s_check_point) := ⟨rfl, rfl, rfl, by decide +kernel, rfl, by decide +kernel, by decide +kernel⟩

abbrev s_Point___init__ : Stmt := inClass (topS 23) 0
theorem sc_Point___init__ : FnScope ["self", "x", "y"] ["self", "x", "y"] (defScope s_Point___init__) := ⟨rfl, rfl, rfl, by decide +kernel, rfl, by decide +kernel, by decide +kernel⟩

abbrev s_Point___eq__ : Stmt := inClass (topS 23) 6
theorem sc_Point___eq__ : FnScope ["self", "other"] ["self", "other"] (defScope s_Point___eq__) := ⟨rfl, rfl, rfl, by decide +kernel, rfl, by decide +kernel, by decide +kernel⟩

abbrev s_Point___sub__ : Stmt := inClass (topS 23) 5
theorem sc_Point___sub__ : FnScope ["self", "other"] ["self", "other"] (defScope s_Point___sub__) := ⟨rfl, rfl, rfl, by decide +kernel, rfl, by decide +kernel, by decide +kernel⟩

abbrev s_Point_towards : Stmt := inClass (topS 23) 3
theorem sc_Point_towards : FnScope ["self", "other", "share"] ["self", "other", "share"] (defScope s_Point_towards) := ⟨rfl, rfl, rfl, by decide +kernel, rfl, by decide +kernel, by decide +kernel⟩

abbrev ptFs (v w : V) : List (Str × V) := [("x", v), ("y", w)]
def PtQ (C CP : Addr) (H : Hp) (z : V) (X Y : Rat) : Prop := ∃ b dx v w, z = .ref b ∧ H b = some (.ins CP dx (ptFs v w)) ∧ RatQ C H v X ∧ RatQ C H w Y
theorem PtQ.same {C CP : Addr} {H H' : Hp} {z : V} {X Y : Rat} (S : Same H H') (h : PtQ C CP H z X Y) : PtQ C CP H' z X Y := let ⟨b, dx, v, w, e, h1, h2, h3⟩ := h; ⟨b, dx, v, w, e, S _ _ h1, h2.same S, h3.same S⟩
def spPInit (C CP : Addr) : Sp := fun vs H Q _ => ∃ p dx v w X Y, vs = [.ref p, v, w] ∧ H p = some (.ins CP dx []) ∧ NumQ C H v X ∧ NumQ C H w Y ∧ ∀ H', (∀ b o, b ≠ p → H b = some o → H' b = some o) → PtQ C CP H' (.ref p) X Y → Q .non H'
def spChk (K : PySem.W.Frag) (CP B : Addr) : Sp := fun vs H Q E => ∃ v t b, vs = [v] ∧ TyX K H v t ∧ PySem.W.kitOne K t (.ref CP) = some b ∧ (b = true → Q .non H) ∧ (b = false → ∀ d H', Same H H' → H' d = some (.xd [("value", v)]) → E (.ref B) (some d) H')
def spPEq (K : PySem.W.Frag) (C CP : Addr) : Sp := fun vs H Q _ => ∃ v w X Y X' Y', vs = [v, w] ∧ PtQ C CP H v X Y ∧ PtQ C CP H w X' Y' ∧ ∀ H', Same H H' → Q (.bl (decide (X = X' ∧ Y = Y'))) H'
def spPSub (C CP : Addr) : Sp := fun vs H Q _ => ∃ v w X Y X' Y', vs = [v, w] ∧ PtQ C CP H v X Y ∧ PtQ C CP H w X' Y' ∧ Wq X ∧ Wq Y ∧ Wq X' ∧ Wq Y' ∧ ∀ z H', Same H H' → PtQ C CP H' z (X - X') (Y - Y') → Q z H'
def spTw (C CP : Addr) : Sp := fun vs H Q _ => ∃ v w sh X Y X' Y' s, vs = [v, w, sh] ∧ PtQ C CP H v X Y ∧ PtQ C CP H w X' Y' ∧ RatQ C H sh s ∧ Wq X ∧ Wq Y ∧ Wq X' ∧ Wq Y' ∧ Wq s ∧ Wq (X' - X) ∧ Wq (Y' - Y) ∧ Wq ((X' - X) * s) ∧ Wq ((Y' - Y) * s) ∧
  ∀ z H', Same H H' → PtQ C CP H' z (X + (X' - X) * s) (Y + (Y' - Y) * s) → Q z H'
theorem no_ins0 {C CP dx : Addr} : ∀ d f g, HO.ins CP dx [] ≠ .ins C d [("number", f), ("under", g)] := fun d f g z => nomatch (HO.ins.inj z).2.2
theorem no_ins1 {C CP dx : Addr} {s : Str} {v : V} : ∀ d f g, HO.ins CP dx [(s, v)] ≠ .ins C d [("number", f), ("under", g)] := fun d f g z => by
  have := congrArg List.length (HO.ins.inj z).2.2
  simp at this
theorem RatAt.off {C : Addr} {H H' : Hp} {v : V} {n u : Int} {p : Addr} (k : ∀ b o, b ≠ p → H b = some o → H' b = some o) (hp : ∃ o, H p = some o ∧ ∀ d f g, o ≠ .ins C d [("number", f), ("under", g)]) (h : RatAt C H v n u) : RatAt C H' v n u := by
  obtain ⟨b, d, e, h⟩ := h
  refine ⟨b, d, e, k b _ (fun z => ?_) h⟩
  obtain ⟨o, h1, h2⟩ := hp
  rw [z, h1] at h
  exact h2 _ _ _ (Option.some.inj h)
theorem NumAt.off {C : Addr} {H H' : Hp} {v : V} {n u : Int} {p : Addr} (k : ∀ b o, b ≠ p → H b = some o → H' b = some o) (hp : ∃ o, H p = some o ∧ ∀ d f g, o ≠ .ins C d [("number", f), ("under", g)]) (h : NumAt C H v n u) : NumAt C H' v n u := h.imp id fun h => h.off k hp
theorem PtQ.off {C CP : Addr} {H H' : Hp} {z : V} {X Y : Rat} {p : Addr} (k : ∀ b o, b ≠ p → H b = some o → H' b = some o) (hp : ∃ o, H p = some o ∧ (∀ d f g, o ≠ .ins C d [("number", f), ("under", g)]) ∧ (∀ d f g, o ≠ .ins CP d [("x", f), ("y", g)])) (h : PtQ C CP H z X Y) : PtQ C CP H' z X Y := by
  obtain ⟨b, d, v, w, e, h, h2, h3⟩ := h
  obtain ⟨o, h4, h5, h6⟩ := hp
  refine ⟨b, d, v, w, e, k b _ (fun z => ?_) h, h2.off k ⟨o, h4, h5⟩, h3.off k ⟨o, h4, h5⟩⟩
  rw [z, h4] at h
  exact h6 _ _ _ (Option.some.inj h)
/-- what Point(v, w) asks -/
theorem mk_pt {C CP x dx : Addr} {H : Hp} {v w : V} {X Y : Rat} {P : VK} {E : XK} (hv : NumQ C H v X) (hw : NumQ C H w Y) (hx : H x = none) (hdx : H dx = none) (ne : dx ≠ x) (q : ∀ H', Same H H' → PtQ C CP H' (.ref x) X Y → P .non H') :
    spPInit C CP [.ref x, v, w] (upd (upd H dx (.own x)) x (.ins CP dx [])) P E := by
  have S : Same H (upd (upd H dx (.own x)) x (.ins CP dx [])) := fun b o e => by
    rw [upd_ne (ne_of_none e hx), upd_ne (ne_of_none e hdx)]
    exact e
  exact ⟨x, dx, v, w, X, Y, rfl, upd_same, hv.same S, hw.same S, fun H' k pt => q H' (fun b o e => k b o (ne_of_none e hx) (S b o e)) pt⟩
theorem ptTy {K : PySem.W.Frag} {mg : Str → Option Value} {a : Ad} (T : Txt K mg a) {H : Hp} {v : V} {X Y : Rat} (h : PtQ a.Ratio a.Point H v X Y) : TyX K H v (.ref a.Point) := by
  obtain ⟨x, dx, _, _, rfl, e, _⟩ := h
  exact .base (.ins e T.clP T.riP.ca T.riP.cn T.riP.ct T.riP.cm)
/-- the same fraction, the same two ints -/
theorem q_same (X Y : Rat) : (X.num = Y.num ∧ (X.den : Int) = (Y.den : Int)) ↔ X = Y := by
  constructor
  · rintro ⟨e1, e2⟩
    exact Rat.ext e1 (by omega)
  · rintro rfl
    exact ⟨rfl, rfl⟩
section
variable {P : Program} {w : World} {K : PySem.W.Frag} {mg : Str → Option Value} {base : Heap} {a : Ad}
theorem ok_check_point {fd : FuncData} (F : Fun K "check_point" "check_point" s_check_point a.check_point fd) (T : Txt K mg a)
    {fd_init : FuncData} (G_init : FnOk P w K mg base CX0 1 a.init fd_init ["self", "value"] (spErrInit K)) (b_init : Binds K fd_init ["self", "value"] []) :
    FnOk P w K mg base (L2.CX P w) 3 a.check_point fd ["value"] (spChk K a.Point a.BadPoint) := by
  refine F.okX sc_check_point (fun vs H Q E h => ?len) (fun cdv A outer s H vs Q E hr h => ⟨_,
      (pss_one (ps_if (pt_not (pt_val (pe_callB call_isi (by rfl) T.n_isinstance (by decide +kernel) (pa_cons (pv 0) (pa_cons (pe_glob (v := .ref a.Point) (by rfl) T.g_Point rfl) pa_nil))))) (pss_one (ps_raise rfl (takes_of rfl rfl rfl rfl) (pmk_oex T.c_BadPoint.ox T.i_BadPoint T.tI G_init (hr.mono (by omega)) b_init .nil pass0 (by rfl) T.g_BadPoint (pa_cons (pv 0) pa_nil)))) pss_nil)), ?body⟩)
  case len => obtain ⟨v, t, b, rfl, _⟩ := h; rfl
  case body =>
    obtain ⟨v, t, b, rfl, ty, k, q1, q2⟩ := h
    refine ⟨_, rfl, _, _, _, _, b, rfl, .own _, ty, k, b, rfl, ?_⟩
    cases b
    · refine iteT ?_
      exact ⟨_, rfl, raise_told T.c_BadPoint fun d H' S e => q2 rfl d H' S e⟩
    · exact iteF (q1 rfl)
theorem ok_Point___init__ {fd : FuncData} (F : Fun K "__init__" "Point.__init__" s_Point___init__ a.Point___init__ fd) (T : Txt K mg a)
    {fd_as_ratio : FuncData} (G_as_ratio : FnOk P w K mg base CX0 4 a.as_ratio fd_as_ratio ["number"] (spAs K a.Ratio)) (b_as_ratio : Binds K fd_as_ratio ["number"] [])
    {fd_is_number : FuncData} (G_is_number : FnOk P w K mg base CX0 2 a.is_number fd_is_number ["value"] (spIsNum K a.Ratio)) (b_is_number : Binds K fd_is_number ["value"] []) :
    FnOk P w K mg base CX0 6 a.Point___init__ fd ["self", "x", "y"] (spPInit a.Ratio a.Point) := by
  refine F.ok sc_Point___init__ (fun vs H Q E h => ?len) (fun cdv A outer s H vs Q E hr h => ⟨_,
      (pss_cons (ps_if (PW.pt (pw_or (pt_not (pt_val (pe_call G_is_number (hr.mono (by omega)) (by rfl) T.g_is_number T.k_is_number b_is_number .nil pass0 (pa_cons (pv 1) pa_nil)))) (pw_or1 (pt_not (pt_val (pe_call G_is_number (hr.mono (by omega)) (by rfl) T.g_is_number T.k_is_number b_is_number .nil pass0 (pa_cons (pv 2) pa_nil))))))) (pss_one ps_never) pss_nil)
      (pss_cons (ps_fld (pv 0) (pe_call G_as_ratio (hr.mono (by omega)) (by rfl) T.g_as_ratio T.k_as_ratio b_as_ratio .nil pass0 (pa_cons (pv 1) pa_nil)) rfl)
      (pss_one (ps_fld (pv 0) (pe_call G_as_ratio (hr.mono (by omega)) (by rfl) T.g_as_ratio T.k_as_ratio b_as_ratio .nil pass0 (pa_cons (pv 2) pa_nil)) rfl)))), ?body⟩)
  case len => obtain ⟨p, dx, v, w, X, Y, rfl, _⟩ := h; rfl
  case body =>
    obtain ⟨p, dx, v, w, X, Y, rfl, hp, hv, hw, q⟩ := h
    obtain ⟨ty, b1, b2, b3, t1, k1, k2, k3, e1⟩ := numTy T hv
    obtain ⟨ty', c1, c2, c3, t1', k1', k2', k3', e2⟩ := numTy T hw
    refine ⟨_, rfl, v, ty, b1, b2, b3, rfl, t1, k1, k2, k3, _, rfl, ?_⟩
    rw [e1]
    refine iteF ?_
    refine ⟨_, rfl, w, ty', c1, c2, c3, rfl, t1', k1', k2', k3', _, rfl, ?_⟩
    rw [e2]
    refine iteF ?_
    refine ⟨_, rfl, v, _, _, rfl, hv, fun v1 H1 S1 hv1 => ?_⟩
    refine ⟨_, rfl, _, _, _, _, rfl, S1 _ _ hp, T.clP, T.nX, by decide, ?_⟩
    have k1 : ∀ b o, b ≠ p → H b = some o → (upd H1 p (.ins a.Point dx [("x", v1)])) b = some o := fun b o n e => by
      rw [upd_ne n]
      exact S1 _ _ e
    have hw1 := NumAt.off k1 ⟨_, hp, no_ins0⟩ hw
    refine ⟨_, rfl, w, _, _, rfl, hw1, fun w1 H2 S2 hw2 => ?_⟩
    refine ⟨_, rfl, _, _, _, _, rfl, S2 _ _ upd_same, T.clP, T.nY, (by show 1 < 1000; decide), ?_⟩
    refine q _ (fun b o n e => ?_) ⟨p, dx, v1, w1, rfl, upd_same, ?_, ?_⟩
    · rw [upd_ne n]
      exact S2 _ _ (k1 b o n e)
    · have h1 : RatAt a.Ratio (upd H1 p (.ins a.Point dx [("x", v1)])) v1 _ _ := RatAt.off (fun b o n e => by rw [upd_ne n]; exact e) ⟨_, S1 _ _ hp, no_ins0⟩ hv1
      exact RatAt.off (p := p) (fun b o n e => by rw [upd_ne n]; exact e) ⟨_, S2 _ _ upd_same, no_ins1⟩ (h1.same S2)
    · exact RatAt.off (p := p) (fun b o n e => by rw [upd_ne n]; exact e) ⟨_, S2 _ _ upd_same, no_ins1⟩ hw2
theorem ok_Point___eq__ {fd : FuncData} (F : Fun K "__eq__" "Point.__eq__" s_Point___eq__ a.Point___eq__ fd) (T : Txt K mg a)
    {fd_Ratio___eq__ : FuncData} (G_Ratio___eq__ : FnOk P w K mg base CX0 1 a.Ratio___eq__ fd_Ratio___eq__ ["self", "other"] (spEqq K a.Ratio)) (b_Ratio___eq__ : Binds K fd_Ratio___eq__ ["self", "other"] []) :
    FnOk P w K mg base CX0 4 a.Point___eq__ fd ["self", "other"] (spPEq K a.Ratio a.Point) := by
  refine F.ok sc_Point___eq__ (fun vs H Q E h => ?len) (fun cdv A outer s H vs Q E hr h => ⟨_,
      (pss_one (ps_ret (pe_and (pe_callB call_isi (by rfl) T.n_isinstance (by decide +kernel) (pa_cons (pv 1) (pa_cons (pe_glob (v := .ref a.Point) (by rfl) T.g_Point rfl) pa_nil))) (pe_and (pe_cmpR (op_eqK T.eqc (fnR G_Ratio___eq__ b_Ratio___eq__) (hr.mono (by omega)) pass0) (pe_fld (pv 0) rfl) (pe_fld (pv 1) rfl) (nomark _)) (pe_one (pe_cmpR (op_eqK T.eqc (fnR G_Ratio___eq__ b_Ratio___eq__) (hr.mono (by omega)) pass0) (pe_fld (pv 0) rfl) (pe_fld (pv 1) rfl) (nomark _))))))), ?body⟩)
  case len => obtain ⟨v, w, X, Y, X', Y', rfl, _⟩ := h; rfl
  case body =>
    obtain ⟨v, w, X, Y, X', Y', rfl, hv, hw, q⟩ := h
    refine ⟨_, rfl, w, _, _, _, true, rfl, .own _, ptTy T hw, T.riP.ks, true, rfl, iteT ?_⟩
    obtain ⟨p1, e1, x1, y1, rfl, h1, ⟨a1, d1, rfl, hx1⟩, ⟨b1, f1, rfl, hy1⟩⟩ := hv
    obtain ⟨p2, e2, x2, y2, rfl, h2, ⟨a2, d2, rfl, hx2⟩, ⟨b2, f2, rfl, hy2⟩⟩ := hw
    have nfC : PySem.W.notFirst K a.Ratio (.ref a.Ratio) = true := by simp [PySem.W.notFirst]
    refine ⟨_, rfl, _, _, _, _, _, rfl, h1, T.clP, T.nX, rfl, _, rfl, _, _, _, _, _, rfl, h2, T.clP, T.nX, rfl, ?_⟩
    refine ⟨a1, d1, _, _, rfl, hx1, .ins hx2, nfC, _, _, _, _, rfl, ⟨a1, d1, rfl, hx1⟩, .inl ⟨_, _, ⟨a2, d2, rfl, hx2⟩, _, rfl, ite2 (fun c => ?_) (fun c => ?_)⟩⟩
    · have g1 := (q_same _ _).mp (of_decide_eq_true c)
      refine ⟨_, rfl, _, _, _, _, _, rfl, h1, T.clP, T.nY, rfl, _, rfl, _, _, _, _, _, rfl, h2, T.clP, T.nY, rfl, ?_⟩
      refine ⟨b1, f1, _, _, rfl, hy1, .ins hy2, nfC, _, _, _, _, rfl, ⟨b1, f1, rfl, hy1⟩, .inl ⟨_, _, ⟨b2, f2, rfl, hy2⟩, ?_⟩⟩
      have e : decide (Y.num = Y'.num ∧ (Y.den : Int) = (Y'.den : Int)) = decide (X = X' ∧ Y = Y') := by
        by_cases k : Y = Y'
        · rw [decide_eq_true ((q_same _ _).mpr k), decide_eq_true ⟨g1, k⟩]
        · rw [decide_eq_false fun z => k ((q_same _ _).mp z), decide_eq_false fun z => k z.2]
      rw [e]
      exact q _ (Same.refl _)
    · have e : decide (X = X' ∧ Y = Y') = false := decide_eq_false fun z => c (decide_eq_true ((q_same _ _).mpr z.1))
      have q := q _ (Same.refl _)
      rw [e] at q
      exact q
theorem ok_Point___sub__ {fd : FuncData} (F : Fun K "__sub__" "Point.__sub__" s_Point___sub__ a.Point___sub__ fd) (T : Txt K mg a)
    {fd_Point___init__ : FuncData} (G_Point___init__ : FnOk P w K mg base CX0 6 a.Point___init__ fd_Point___init__ ["self", "x", "y"] (spPInit a.Ratio a.Point)) (b_Point___init__ : Binds K fd_Point___init__ ["self", "x", "y"] [])
    {fd_Ratio___sub__ : FuncData} (G_Ratio___sub__ : FnOk P w K mg base CX0 5 a.Ratio___sub__ fd_Ratio___sub__ ["self", "other"] (spBin a.Ratio gSub)) (b_Ratio___sub__ : Binds K fd_Ratio___sub__ ["self", "other"] []) :
    FnOk P w K mg base CX0 8 a.Point___sub__ fd ["self", "other"] (spPSub a.Ratio a.Point) := by
  refine F.ok sc_Point___sub__ (fun vs H Q E h => ?len) (fun cdv A outer s H vs Q E hr h => ⟨_,
      (pss_cons (ps_if (pt_not (pt_val (pe_callB call_isi (by rfl) T.n_isinstance (by decide +kernel) (pa_cons (pv 1) (pa_cons (pe_glob (v := .ref a.Point) (by rfl) T.g_Point rfl) pa_nil))))) (pss_one ps_never) pss_nil)
      (pss_one (ps_ret (pe_make T.m_Point G_Point___init__ (hr.mono (by omega)) (by rfl) T.g_Point b_Point___init__ .nil pass0 (pa_cons (pe_op (op_binK T.o_sub (fnR G_Ratio___sub__ b_Ratio___sub__) (hr.mono (by omega)) pass0) (pe_fld (pv 0) rfl) (pe_fld (pv 1) rfl)) (pa_cons (pe_op (op_binK T.o_sub (fnR G_Ratio___sub__ b_Ratio___sub__) (hr.mono (by omega)) pass0) (pe_fld (pv 0) rfl) (pe_fld (pv 1) rfl)) pa_nil)))))), ?body⟩)
  case len => obtain ⟨v, w, X, Y, X', Y', rfl, _⟩ := h; rfl
  case body =>
    obtain ⟨v, w, X, Y, X', Y', rfl, hv, hw, l1, l2, l3, l4, q⟩ := h
    refine ⟨_, rfl, w, _, _, _, true, rfl, .own _, ptTy T hw, T.riP.ks, _, rfl, iteF ?_⟩
    obtain ⟨p1, e1, x1, y1, rfl, h1, ⟨a1, d1, rfl, hx1⟩, ⟨b1, f1, rfl, hy1⟩⟩ := hv
    obtain ⟨p2, e2, x2, y2, rfl, h2, ⟨a2, d2, rfl, hx2⟩, ⟨b2, f2, rfl, hy2⟩⟩ := hw
    refine ⟨_, rfl, _, _, _, _, _, rfl, h1, T.clP, T.nX, rfl, _, rfl, _, _, _, _, _, rfl, h2, T.clP, T.nX, rfl, ?_⟩
    refine ⟨a1, a2, _, _, _, _, rfl, rfl, hx1, hx2, _, _, X, X', rfl, ⟨a1, d1, rfl, hx1⟩, .inr ⟨a2, d2, rfl, hx2⟩, l1, l3, fun z3 H3 S3 r3 => ?_⟩
    refine ⟨_, rfl, _, _, _, _, _, rfl, S3 _ _ h1, T.clP, T.nY, rfl, _, rfl, _, _, _, _, _, rfl, S3 _ _ h2, T.clP, T.nY, rfl, ?_⟩
    refine ⟨b1, b2, _, _, _, _, rfl, rfl, S3 _ _ hy1, S3 _ _ hy2, _, _, Y, Y', rfl, ⟨b1, f1, rfl, S3 _ _ hy1⟩, .inr ⟨b2, f2, rfl, S3 _ _ hy2⟩, l2, l4, fun z4 H4 S4 r4 => ?_⟩
    intro x dx c8 c9 c10
    exact mk_pt (.inr (r3.same S4)) (.inr r4) c8 c9 c10 fun H5 S5 pt => ⟨rfl, q _ H5 ((S3.trans S4).trans S5) pt⟩
theorem ok_Point_towards {fd : FuncData} (F : Fun K "towards" "Point.towards" s_Point_towards a.Point_towards fd) (T : Txt K mg a)
    {fd_Point___init__ : FuncData} (G_Point___init__ : FnOk P w K mg base CX0 6 a.Point___init__ fd_Point___init__ ["self", "x", "y"] (spPInit a.Ratio a.Point)) (b_Point___init__ : Binds K fd_Point___init__ ["self", "x", "y"] [])
    {fd_Ratio___add__ : FuncData} (G_Ratio___add__ : FnOk P w K mg base CX0 5 a.Ratio___add__ fd_Ratio___add__ ["self", "other"] (spBin a.Ratio gAdd)) (b_Ratio___add__ : Binds K fd_Ratio___add__ ["self", "other"] [])
    {fd_Ratio___mul__ : FuncData} (G_Ratio___mul__ : FnOk P w K mg base CX0 5 a.Ratio___mul__ fd_Ratio___mul__ ["self", "other"] (spBin a.Ratio gMul)) (b_Ratio___mul__ : Binds K fd_Ratio___mul__ ["self", "other"] [])
    {fd_Ratio___sub__ : FuncData} (G_Ratio___sub__ : FnOk P w K mg base CX0 5 a.Ratio___sub__ fd_Ratio___sub__ ["self", "other"] (spBin a.Ratio gSub)) (b_Ratio___sub__ : Binds K fd_Ratio___sub__ ["self", "other"] [])
    {fd_is_number : FuncData} (G_is_number : FnOk P w K mg base CX0 2 a.is_number fd_is_number ["value"] (spIsNum K a.Ratio)) (b_is_number : Binds K fd_is_number ["value"] [])
    {fd_check_point : FuncData} (G_check_point : FnOk P w K mg base (L2.CX P w) 3 a.check_point fd_check_point ["value"] (spChk K a.Point a.BadPoint)) (b_check_point : Binds K fd_check_point ["value"] []) :
    FnOk P w K mg base CX0 8 a.Point_towards fd ["self", "other", "share"] (spTw a.Ratio a.Point) := by
  refine F.ok sc_Point_towards (fun vs H Q E h => ?len) (fun cdv A outer s H vs Q E hr h => ⟨_,
      (pss_cons (ps_expr (pe_call G_check_point (hr.mono (by omega)) (by rfl) T.g_check_point T.k_check_point b_check_point .nil passF (pa_cons (pv 1) pa_nil)))
      (pss_cons (ps_if (pt_not (pt_val (pe_call G_is_number (hr.mono (by omega)) (by rfl) T.g_is_number T.k_is_number b_is_number .nil pass0 (pa_cons (pv 2) pa_nil)))) (pss_one ps_never) pss_nil)
      (pss_one (ps_ret (pe_make T.m_Point G_Point___init__ (hr.mono (by omega)) (by rfl) T.g_Point b_Point___init__ .nil pass0 (pa_cons (pe_op (op_binK T.o_add (fnR G_Ratio___add__ b_Ratio___add__) (hr.mono (by omega)) pass0) (pe_fld (pv 0) rfl) (pe_op (op_binK T.o_mul (fnR G_Ratio___mul__ b_Ratio___mul__) (hr.mono (by omega)) pass0) (pe_op (op_binK T.o_sub (fnR G_Ratio___sub__ b_Ratio___sub__) (hr.mono (by omega)) pass0) (pe_fld (pv 1) rfl) (pe_fld (pv 0) rfl)) (pv 2))) (pa_cons (pe_op (op_binK T.o_add (fnR G_Ratio___add__ b_Ratio___add__) (hr.mono (by omega)) pass0) (pe_fld (pv 0) rfl) (pe_op (op_binK T.o_mul (fnR G_Ratio___mul__ b_Ratio___mul__) (hr.mono (by omega)) pass0) (pe_op (op_binK T.o_sub (fnR G_Ratio___sub__ b_Ratio___sub__) (hr.mono (by omega)) pass0) (pe_fld (pv 1) rfl) (pe_fld (pv 0) rfl)) (pv 2))) pa_nil))))))), ?body⟩)
  case len => obtain ⟨v, w, sh, X, Y, X', Y', s, rfl, _⟩ := h; rfl
  case body =>
    obtain ⟨v, w, sh, X, Y, X', Y', s1, rfl, hv, hw, hs, l1, l2, l3, l4, l5, m1, m2, m3, m4, q⟩ := h
    refine ⟨_, rfl, w, _, true, rfl, ptTy T hw, T.riP.ks, fun _ => ?_, fun z => by cases z⟩
    obtain ⟨ty, b1, b2, b3, t1, k1, k2, k3, e⟩ := numTy T (.inr hs)
    refine ⟨_, rfl, sh, ty, b1, b2, b3, rfl, t1, k1, k2, k3, _, rfl, ?_⟩
    rw [e]
    refine iteF ?_
    obtain ⟨p1, e1, x1, y1, rfl, h1, ⟨a1, d1, rfl, hx1⟩, ⟨b1, f1, rfl, hy1⟩⟩ := hv
    obtain ⟨p2, e2, x2, y2, rfl, h2, ⟨a2, d2, rfl, hx2⟩, ⟨b2, f2, rfl, hy2⟩⟩ := hw
    obtain ⟨s0, sd, rfl, hs0⟩ := hs
    refine ⟨_, rfl, _, _, _, _, _, rfl, h1, T.clP, T.nX, rfl, _, rfl, _, _, _, _, _, rfl, h2, T.clP, T.nX, rfl, _, rfl, _, _, _, _, _, rfl, h1, T.clP, T.nX, rfl, ?_⟩
    refine ⟨a2, a1, _, _, _, _, rfl, rfl, hx2, hx1, _, _, X', X, rfl, ⟨a2, d2, rfl, hx2⟩, .inr ⟨a1, d1, rfl, hx1⟩, l3, l1, fun z3x H3x S3x r3x => ?_⟩
    obtain ⟨g3x, i3x, rfl, hz3x⟩ := id r3x
    refine ⟨_, rfl, g3x, s0, _, _, _, _, rfl, rfl, hz3x, S3x _ _ hs0, _, _, _, s1, rfl, r3x, .inr ⟨s0, sd, rfl, S3x _ _ hs0⟩, m1, l5, fun z4x H4x S4x r4x => ?_⟩
    obtain ⟨g4x, i4x, rfl, hz4x⟩ := id r4x
    have Sa := S3x.trans S4x
    refine ⟨a1, g4x, _, _, _, _, rfl, rfl, Sa _ _ hx1, hz4x, _, _, X, _, rfl, ⟨a1, d1, rfl, Sa _ _ hx1⟩, .inr r4x, l1, m3, fun z5x H5x S5x r5x => ?_⟩
    have Sb := Sa.trans S5x
    refine ⟨_, rfl, _, _, _, _, _, rfl, Sb _ _ h1, T.clP, T.nY, rfl, _, rfl, _, _, _, _, _, rfl, Sb _ _ h2, T.clP, T.nY, rfl, _, rfl, _, _, _, _, _, rfl, Sb _ _ h1, T.clP, T.nY, rfl, ?_⟩
    refine ⟨b2, b1, _, _, _, _, rfl, rfl, Sb _ _ hy2, Sb _ _ hy1, _, _, Y', Y, rfl, ⟨b2, f2, rfl, Sb _ _ hy2⟩, .inr ⟨b1, f1, rfl, Sb _ _ hy1⟩, l4, l2, fun z3y H3y S3y r3y => ?_⟩
    have hs2 := Sb.trans S3y
    obtain ⟨g3y, i3y, rfl, hz3y⟩ := id r3y
    refine ⟨_, rfl, g3y, s0, _, _, _, _, rfl, rfl, hz3y, hs2 _ _ hs0, _, _, _, s1, rfl, r3y, .inr ⟨s0, sd, rfl, hs2 _ _ hs0⟩, m2, l5, fun z4y H4y S4y r4y => ?_⟩
    obtain ⟨g4y, i4y, rfl, hz4y⟩ := id r4y
    have Sc := hs2.trans S4y
    refine ⟨b1, g4y, _, _, _, _, rfl, rfl, Sc _ _ hy1, hz4y, _, _, Y, _, rfl, ⟨b1, f1, rfl, Sc _ _ hy1⟩, .inr r4y, l2, m4, fun z5y H5y S5y r5y => ?_⟩
    intro x dx c8 c9 c10
    exact mk_pt (.inr (r5x.same ((S3y.trans S4y).trans S5y))) (.inr r5y) c8 c9 c10 fun H6 S6 pt => ⟨rfl, q _ H6 ((Sc.trans S5y).trans S6) pt⟩
end
end My

namespace My
open PySem PySem.Spec PyProof.Rows L2 G
abbrev s_Line___init__ : Stmt := inClass (topS 24) 0
theorem sc_Line___init__ : FnScope ["self", "one", "other"] ["self", "one", "other"] (defScope s_Line___init__) := ⟨rfl, rfl, rfl, by decide +kernel, rfl, by decide +kernel, by decide +kernel⟩

abbrev s_Line_height : Stmt := inClass (topS 24) 1
theorem sc_Line_height : FnScope ["self", "point", "way", "gone"] ["self", "point"] (defScope s_Line_height) := ⟨rfl, rfl, rfl, by decide +kernel, rfl, by decide +kernel, by decide +kernel⟩

abbrev s_Line_share : Stmt := inClass (topS 24) 2
theorem sc_Line_share : FnScope ["self", "point", "way", "gone"] ["self", "point"] (defScope s_Line_share) := ⟨rfl, rfl, rfl, by decide +kernel, rfl, by decide +kernel, by decide +kernel⟩

abbrev s_Line___and__ : Stmt := inClass (topS 24) 3
theorem sc_Line___and__ : FnScope ["self", "other", "begin", "fall"] ["self", "other"] (defScope s_Line___and__) := ⟨rfl, rfl, rfl, by decide +kernel, rfl, by decide +kernel, by decide +kernel⟩

abbrev s_Line___eq__ : Stmt := inClass (topS 24) 4
theorem sc_Line___eq__ : FnScope ["self", "other"] ["self", "other"] (defScope s_Line___eq__) := ⟨rfl, rfl, rfl, by decide +kernel, rfl, by decide +kernel, by decide +kernel⟩

abbrev lnFs (v w : V) : List (Str × V) := [("one", v), ("other", w)]
def LnQ (C CP CL : Addr) (H : Hp) (z : V) (X1 Y1 X2 Y2 : Rat) : Prop := ∃ b dx v w, z = .ref b ∧ H b = some (.ins CL dx (lnFs v w)) ∧ PtQ C CP H v X1 Y1 ∧ PtQ C CP H w X2 Y2
theorem LnQ.same {C CP CL : Addr} {H H' : Hp} {z : V} {X1 Y1 X2 Y2 : Rat} (S : Same H H') (h : LnQ C CP CL H z X1 Y1 X2 Y2) : LnQ C CP CL H' z X1 Y1 X2 Y2 := let ⟨b, dx, v, w, e, h1, h2, h3⟩ := h; ⟨b, dx, v, w, e, S _ _ h1, h2.same S, h3.same S⟩
/-- an error of this class that tells v -/
def Told (H : Hp) (v : V) (B : Addr) (E : XK) : Prop := ∀ d H', Same H H' → H' d = some (.xd [("value", v)]) → E (.ref B) (some d) H'
theorem Told.same {H H' : Hp} {v : V} {B : Addr} {E : XK} (S : Same H H') (h : Told H v B E) : Told H' v B E := fun d H1 S1 e => h d H1 (S.trans S1) e
/-- how long what height reckons with is -/
structure HW (X1 Y1 X2 Y2 X Y : Rat) : Prop where
  a1 : Wq X1
  b1 : Wq Y1
  a2 : Wq X2
  b2 : Wq Y2
  a : Wq X
  b : Wq Y
  wx : Wq (X2 - X1)
  wy : Wq (Y2 - Y1)
  gx : Wq (X - X1)
  gy : Wq (Y - Y1)
  l : Wq ((X2 - X1) * (Y - Y1))
  r : Wq ((Y2 - Y1) * (X - X1))
def hq (X1 Y1 X2 Y2 X Y : Rat) : Rat := (X2 - X1) * (Y - Y1) - (Y2 - Y1) * (X - X1)
def shq (X1 Y1 X2 Y2 X Y : Rat) : Rat := if X2 - X1 = 0 then (Y - Y1) / (Y2 - Y1) else (X - X1) / (X2 - X1)
def spLInit (K : PySem.W.Frag) (C CP CL B : Addr) : Sp := fun vs H Q E => ∃ p dx v w, vs = [.ref p, v, w] ∧ H p = some (.ins CL dx []) ∧
  ((∃ X1 Y1 X2 Y2, PtQ C CP H v X1 Y1 ∧ PtQ C CP H w X2 Y2 ∧ ¬ (X1 = X2 ∧ Y1 = Y2) ∧ ∀ H', (∀ b o, b ≠ p → H b = some o → H' b = some o) → LnQ C CP CL H' (.ref p) X1 Y1 X2 Y2 → Q .non H') ∨
   (NotR K CP H v ∧ Told H v B E) ∨ (TyX K H v (.ref CP) ∧ (∀ H', Same H H' → NotR K CP H' w) ∧ Told H w B E) ∨ (∃ X Y, PtQ C CP H v X Y ∧ PtQ C CP H w X Y ∧ Told H w B E))
def spHeight (K : PySem.W.Frag) (C CP CL B : Addr) : Sp := fun vs H Q E => ∃ v w X1 Y1 X2 Y2, vs = [v, w] ∧ LnQ C CP CL H v X1 Y1 X2 Y2 ∧
  ((∃ X Y, PtQ C CP H w X Y ∧ HW X1 Y1 X2 Y2 X Y ∧ ∀ z H', Same H H' → RatQ C H' z (hq X1 Y1 X2 Y2 X Y) → Q z H') ∨ (NotR K CP H w ∧ Told H w B E))
def spShare (K : PySem.W.Frag) (C CP CL B O : Addr) : Sp := fun vs H Q E => ∃ v w X1 Y1 X2 Y2, vs = [v, w] ∧ LnQ C CP CL H v X1 Y1 X2 Y2 ∧
  ((∃ X Y, PtQ C CP H w X Y ∧ HW X1 Y1 X2 Y2 X Y ∧ ¬ (X1 = X2 ∧ Y1 = Y2) ∧ (hq X1 Y1 X2 Y2 X Y ≠ 0 → Told H w O E) ∧ (hq X1 Y1 X2 Y2 X Y = 0 → ∀ z H', Same H H' → RatQ C H' z (shq X1 Y1 X2 Y2 X Y) → Q z H')) ∨ (NotR K CP H w ∧ Told H w B E))
/-- how long what & reckons with is -/
structure AW (X3 Y3 X4 Y4 h3 h4 : Rat) : Prop where
  s : Wq (h3 / (h3 - h4))
  x : Wq (X4 - X3)
  y : Wq (Y4 - Y3)
  xs : Wq ((X4 - X3) * (h3 / (h3 - h4)))
  ys : Wq ((Y4 - Y3) * (h3 / (h3 - h4)))
def spAnd (C CP CL : Addr) : Sp := fun vs H Q _ => ∃ v w X1 Y1 X2 Y2 X3 Y3 X4 Y4 h3 h4, vs = [v, w] ∧ LnQ C CP CL H v X1 Y1 X2 Y2 ∧ LnQ C CP CL H w X3 Y3 X4 Y4 ∧ HW X1 Y1 X2 Y2 X3 Y3 ∧ HW X1 Y1 X2 Y2 X4 Y4 ∧ h3 = hq X1 Y1 X2 Y2 X3 Y3 ∧ h4 = hq X1 Y1 X2 Y2 X4 Y4 ∧ Wq h3 ∧ Wq h4 ∧ Wq (h3 - h4) ∧
  (h3 - h4 = 0 → ∀ H', Same H H' → Q .non H') ∧ (h3 - h4 ≠ 0 → AW X3 Y3 X4 Y4 h3 h4 ∧ ∀ z H', Same H H' → PtQ C CP H' z (X3 + (X4 - X3) * (h3 / (h3 - h4))) (Y3 + (Y4 - Y3) * (h3 / (h3 - h4))) → Q z H')
def spLEq (K : PySem.W.Frag) (C CP CL : Addr) : Sp := fun vs H Q _ => ∃ v w X1 Y1 X2 Y2, vs = [v, w] ∧ LnQ C CP CL H v X1 Y1 X2 Y2 ∧
  ((∃ X3 Y3 X4 Y4, LnQ C CP CL H w X3 Y3 X4 Y4 ∧ ∀ H', Same H H' → Q (.bl (decide ((X1 = X3 ∧ Y1 = Y3) ∧ (X2 = X4 ∧ Y2 = Y4)))) H') ∨ (NotR K CL H w ∧ Q (.bl false) H))
theorem lnTy {K : PySem.W.Frag} {mg : Str → Option Value} {a : Ad} (T : Txt K mg a) {H : Hp} {v : V} {X1 Y1 X2 Y2 : Rat} (h : LnQ a.Ratio a.Point a.Line H v X1 Y1 X2 Y2) : TyX K H v (.ref a.Line) := by
  obtain ⟨x, dx, _, _, rfl, e, _⟩ := h
  exact .base (.ins e T.clL T.riL.ca T.riL.cn T.riL.ct T.riL.cm)
theorem num_zero {q : Rat} : q.num = 0 ↔ q = 0 := Rat.num_eq_zero
/-- what Line(v, w) asks -/
theorem mk_ln {K : PySem.W.Frag} {C CP CL B : Addr} {H : Hp} {v w : V} {X1 Y1 X2 Y2 : Rat} {E : XK} {Q : VK} (hv : PtQ C CP H v X1 Y1) (hw : PtQ C CP H w X2 Y2) (ne : ¬ (X1 = X2 ∧ Y1 = Y2)) (q : ∀ w H', Same H H' → LnQ C CP CL H' w X1 Y1 X2 Y2 → Q w H') :
    ∀ x dx, H x = none → H dx = none → dx ≠ x → spLInit K C CP CL B [.ref x, v, w] (upd (upd H dx (.own x)) x (.ins CL dx [])) (fun v H2 => v = .non ∧ Q (.ref x) H2) E := by
  intro x dx hx hdx n
  have S : Same H (upd (upd H dx (.own x)) x (.ins CL dx [])) := fun b o e => by
    rw [upd_ne (ne_of_none e hx), upd_ne (ne_of_none e hdx)]
    exact e
  exact ⟨x, dx, v, w, rfl, upd_same, .inl ⟨X1, Y1, X2, Y2, hv.same S, hw.same S, ne, fun H' k l => ⟨rfl, q _ H' (fun b o e => k b o (ne_of_none e hx) (S b o e)) l⟩⟩⟩
section
variable {P : Program} {w : World} {K : PySem.W.Frag} {mg : Str → Option Value} {base : Heap} {a : Ad}
theorem ok_Line___init__ {fd : FuncData} (F : Fun K "__init__" "Line.__init__" s_Line___init__ a.Line___init__ fd) (T : Txt K mg a)
    {fd_Point___eq__ : FuncData} (G_Point___eq__ : FnOk P w K mg base CX0 4 a.Point___eq__ fd_Point___eq__ ["self", "other"] (spPEq K a.Ratio a.Point)) (b_Point___eq__ : Binds K fd_Point___eq__ ["self", "other"] [])
    {fd_init : FuncData} (G_init : FnOk P w K mg base CX0 1 a.init fd_init ["self", "value"] (spErrInit K)) (b_init : Binds K fd_init ["self", "value"] [])
    {fd_check_point : FuncData} (G_check_point : FnOk P w K mg base (L2.CX P w) 3 a.check_point fd_check_point ["value"] (spChk K a.Point a.BadPoint)) (b_check_point : Binds K fd_check_point ["value"] []) :
    FnOk P w K mg base (L2.CX P w) 6 a.Line___init__ fd ["self", "one", "other"] (spLInit K a.Ratio a.Point a.Line a.BadPoint) := by
  refine F.okX sc_Line___init__ (fun vs H Q E h => ?len) (fun cdv A outer s H vs Q E hr h => ⟨_,
      (pss_cons (ps_expr (pe_call G_check_point (hr.mono (by omega)) (by rfl) T.g_check_point T.k_check_point b_check_point .nil (passes_call (takes_of rfl rfl rfl rfl) fun _ _ _ _ h => h) (pa_cons (pv 1) pa_nil)))
      (pss_cons (ps_expr (pe_call G_check_point (hr.mono (by omega)) (by rfl) T.g_check_point T.k_check_point b_check_point .nil (passes_call (takes_of rfl rfl rfl rfl) fun _ _ _ _ h => h) (pa_cons (pv 2) pa_nil)))
      (pss_cons (ps_if (pt_cmpR (op_eqK T.eqp (fnR G_Point___eq__ b_Point___eq__) (hr.mono (by omega)) pass0) (pv 1) (pv 2) (nomark _)) (pss_one (ps_raise rfl (takes_of rfl rfl rfl rfl) (pmk_oex T.c_BadPoint.ox T.i_BadPoint T.tI G_init (hr.mono (by omega)) b_init .nil pass0 (by rfl) T.g_BadPoint (pa_cons (pv 2) pa_nil)))) pss_nil)
      (pss_cons (ps_fld (pv 0) (pv 1) rfl)
      (pss_one (ps_fld (pv 0) (pv 2) rfl)))))), ?body⟩)
  case len => obtain ⟨p, dx, v, w, rfl, _⟩ := h; rfl
  case body =>
    obtain ⟨p, dx, v, w, rfl, hp, h⟩ := h
    have nfC : PySem.W.notFirst K a.Point (.ref a.Point) = true := by simp [PySem.W.notFirst]
    rcases h with ⟨X1, Y1, X2, Y2, hv, hw, ne, q⟩ | ⟨⟨t, t1, k1⟩, q⟩ | ⟨tv, no, q⟩ | ⟨X, Y, hv, hw, q⟩
    · refine ⟨_, rfl, v, _, true, rfl, ptTy T hv, T.riP.ks, fun _ => ?_, fun z => by cases z⟩
      refine ⟨_, rfl, w, _, true, rfl, ptTy T hw, T.riP.ks, fun _ => ?_, fun z => by cases z⟩
      obtain ⟨b1, d1, x1, y1, rfl, h1, r1, s1⟩ := id hv
      obtain ⟨b2, d2, x2, y2, rfl, h2, r2, s2⟩ := id hw
      refine ⟨_, rfl, _, rfl, b1, d1, _, _, rfl, h1, .ins h2, nfC, _, _, X1, Y1, X2, Y2, rfl, hv, hw, fun H1 S1 => ?_⟩
      rw [decide_eq_false ne]
      refine ⟨_, rfl, iteF ?_⟩
      have n1 : ∀ (d : Addr) (f g : V), HO.ins a.Line dx [] ≠ .ins a.Point d [("x", f), ("y", g)] := fun d f g z => nomatch (HO.ins.inj z).2.2
      have n2 : ∀ (d : Addr) (f g : V), HO.ins a.Line dx [("one", V.ref b1)] ≠ .ins a.Point d [("x", f), ("y", g)] := fun d f g z => by
        have := congrArg List.length (HO.ins.inj z).2.2
        simp at this
      have e1 := S1 _ _ hp
      refine ⟨_, rfl, _, rfl, _, _, _, _, rfl, e1, T.clL, T.nA, by decide, ?_⟩
      refine ⟨_, rfl, _, rfl, _, _, _, _, rfl, upd_same, T.clL, T.nB, (by show 1 < 1000; decide), ?_⟩
      refine q _ (fun b o n e => ?_) ⟨p, dx, _, _, rfl, upd_same, ?_, ?_⟩
      · rw [upd_ne n, upd_ne n]
        exact S1 _ _ e
      · exact ((hv.same S1).off (fun b o n e => by rw [upd_ne n]; exact e) ⟨_, e1, no_ins0, n1⟩).off (fun b o n e => by rw [upd_ne n]; exact e) ⟨_, upd_same, no_ins1, n2⟩
      · exact ((hw.same S1).off (fun b o n e => by rw [upd_ne n]; exact e) ⟨_, e1, no_ins0, n1⟩).off (fun b o n e => by rw [upd_ne n]; exact e) ⟨_, upd_same, no_ins1, n2⟩
    · exact ⟨_, rfl, v, t, false, rfl, t1, k1, (fun z => nomatch z), fun _ d H' S e => q d H' S e⟩
    · refine ⟨_, rfl, v, _, true, rfl, tv, T.riP.ks, fun _ => ?_, fun z => by cases z⟩
      obtain ⟨t, t1, k1⟩ := no _ (Same.refl _)
      exact ⟨_, rfl, w, t, false, rfl, t1, k1, (fun z => nomatch z), fun _ d H' S e => q d H' S e⟩
    · refine ⟨_, rfl, v, _, true, rfl, ptTy T hv, T.riP.ks, fun _ => ?_, fun z => by cases z⟩
      refine ⟨_, rfl, w, _, true, rfl, ptTy T hw, T.riP.ks, fun _ => ?_, fun z => by cases z⟩
      obtain ⟨b1, d1, x1, y1, rfl, h1, r1, s1⟩ := id hv
      obtain ⟨b2, d2, x2, y2, rfl, h2, r2, s2⟩ := id hw
      refine ⟨_, rfl, _, rfl, b1, d1, _, _, rfl, h1, .ins h2, nfC, _, _, X, Y, X, Y, rfl, hv, hw, fun H1 S1 => ?_⟩
      rw [decide_eq_true ⟨rfl, rfl⟩]
      refine ⟨_, rfl, iteT ?_⟩
      exact ⟨_, rfl, raise_told T.c_BadPoint fun d H' S e => q d H' (S1.trans S) e⟩
theorem ok_Line_height {fd : FuncData} (F : Fun K "height" "Line.height" s_Line_height a.Line_height fd) (T : Txt K mg a)
    {fd_Ratio___sub__ : FuncData} (G_Ratio___sub__ : FnOk P w K mg base CX0 5 a.Ratio___sub__ fd_Ratio___sub__ ["self", "other"] (spBin a.Ratio gSub)) (b_Ratio___sub__ : Binds K fd_Ratio___sub__ ["self", "other"] [])
    {fd_Ratio___mul__ : FuncData} (G_Ratio___mul__ : FnOk P w K mg base CX0 5 a.Ratio___mul__ fd_Ratio___mul__ ["self", "other"] (spBin a.Ratio gMul)) (b_Ratio___mul__ : Binds K fd_Ratio___mul__ ["self", "other"] [])
    {fd_Point___sub__ : FuncData} (G_Point___sub__ : FnOk P w K mg base CX0 8 a.Point___sub__ fd_Point___sub__ ["self", "other"] (spPSub a.Ratio a.Point)) (b_Point___sub__ : Binds K fd_Point___sub__ ["self", "other"] [])
    {fd_check_point : FuncData} (G_check_point : FnOk P w K mg base (L2.CX P w) 3 a.check_point fd_check_point ["value"] (spChk K a.Point a.BadPoint)) (b_check_point : Binds K fd_check_point ["value"] []) :
    FnOk P w K mg base (L2.CX P w) 9 a.Line_height fd ["self", "point"] (spHeight K a.Ratio a.Point a.Line a.BadPoint) := by
  refine F.okX sc_Line_height (fun vs H Q E h => ?len) (fun cdv A outer s H vs Q E hr h => ⟨_,
      (pss_cons (ps_expr (pe_call G_check_point (hr.mono (by omega)) (by rfl) T.g_check_point T.k_check_point b_check_point .nil (passes_call (takes_of rfl rfl rfl rfl) fun _ _ _ _ h => h) (pa_cons (pv 1) pa_nil)))
      (pss_cons (ps_set (i := 2) sc_Line_height.nd rfl (Or.inl rfl) (pe_op (op_binS T.oS (fnR G_Point___sub__ b_Point___sub__) (hr.mono (by omega)) pass0) (pe_fld (pv 0) rfl) (pe_fld (pv 0) rfl)))
      (pss_cons (ps_set (i := 3) sc_Line_height.nd rfl (Or.inl rfl) (pe_op (op_binS T.oS (fnR G_Point___sub__ b_Point___sub__) (hr.mono (by omega)) pass0) (pv 1) (pe_fld (pv 0) rfl)))
      (pss_one (ps_ret (pe_op (op_binK T.o_sub (fnR G_Ratio___sub__ b_Ratio___sub__) (hr.mono (by omega)) pass0) (pe_op (op_binK T.o_mul (fnR G_Ratio___mul__ b_Ratio___mul__) (hr.mono (by omega)) pass0) (pe_fld (pv 2) rfl) (pe_fld (pv 3) rfl)) (pe_op (op_binK T.o_mul (fnR G_Ratio___mul__ b_Ratio___mul__) (hr.mono (by omega)) pass0) (pe_fld (pv 2) rfl) (pe_fld (pv 3) rfl)))))))), ?body⟩)
  case len => obtain ⟨v, w, X1, Y1, X2, Y2, rfl, _⟩ := h; rfl
  case body =>
    obtain ⟨v, w, X1, Y1, X2, Y2, rfl, ⟨b, dx, v1, w1, rfl, hb, p1, p2⟩, h⟩ := h
    rcases h with ⟨X, Y, pw, W, q⟩ | ⟨⟨ty, t1, k1⟩, q⟩
    · refine ⟨_, rfl, w, _, true, rfl, ptTy T pw, T.riP.ks, fun _ => ?_, fun z => by cases z⟩
      obtain ⟨c1, d1, x1, y1, rfl, hc1, r1, s1⟩ := id p1
      obtain ⟨c2, d2, x2, y2, rfl, hc2, r2, s2⟩ := id p2
      obtain ⟨c, d, x, y, rfl, hc, r, s⟩ := id pw
      refine ⟨_, rfl, _, _, _, _, _, rfl, hb, T.clL, T.nB, rfl, _, rfl, _, _, _, _, _, rfl, hb, T.clL, T.nA, rfl, ?_⟩
      refine ⟨c2, c1, _, _, _, _, rfl, rfl, hc2, hc1, _, _, X2, Y2, X1, Y1, rfl, p2, p1, W.a2, W.b2, W.a1, W.b1, fun z1 H1 S1 q1 => ?_⟩
      refine ⟨_, rfl, _, rfl, _, _, _, _, _, rfl, S1 _ _ hb, T.clL, T.nA, rfl, ?_⟩
      refine ⟨c, c1, _, _, _, _, rfl, rfl, S1 _ _ hc, S1 _ _ hc1, _, _, X, Y, X1, Y1, rfl, pw.same S1, p1.same S1, W.a, W.b, W.a1, W.b1, fun z2 H2 S2 q2 => ?_⟩
      obtain ⟨g1, i1, u1, v1, rfl, hg1, ⟨u1, ud1, rfl, hu1⟩, ⟨v1, vd1, rfl, hv1⟩⟩ := q1.same S2
      obtain ⟨g2, i2, u2, v2, rfl, hg2, ⟨u2, ud2, rfl, hu2⟩, ⟨v2, vd2, rfl, hv2⟩⟩ := q2
      refine ⟨_, rfl, _, _, _, _, _, rfl, hg1, T.clP, T.nX, rfl, _, rfl, _, _, _, _, _, rfl, hg2, T.clP, T.nY, rfl, ?_⟩
      refine ⟨u1, v2, _, _, _, _, rfl, rfl, hu1, hv2, _, _, _, _, rfl, ⟨u1, ud1, rfl, hu1⟩, .inr ⟨v2, vd2, rfl, hv2⟩, W.wx, W.gy, fun z3 H3 S3 r3 => ?_⟩
      refine ⟨_, rfl, _, _, _, _, _, rfl, S3 _ _ hg1, T.clP, T.nY, rfl, _, rfl, _, _, _, _, _, rfl, S3 _ _ hg2, T.clP, T.nX, rfl, ?_⟩
      refine ⟨v1, u2, _, _, _, _, rfl, rfl, S3 _ _ hv1, S3 _ _ hu2, _, _, _, _, rfl, ⟨v1, vd1, rfl, S3 _ _ hv1⟩, .inr ⟨u2, ud2, rfl, S3 _ _ hu2⟩, W.wy, W.gx, fun z4 H4 S4 r4 => ?_⟩
      obtain ⟨g3, i3, rfl, hg3⟩ := r3.same S4
      obtain ⟨g4, i4, rfl, hg4⟩ := r4
      exact ⟨g3, g4, _, _, _, _, rfl, rfl, hg3, hg4, _, _, _, _, rfl, ⟨g3, i3, rfl, hg3⟩, .inr ⟨g4, i4, rfl, hg4⟩, W.l, W.r, fun z5 H5 S5 r5 => q z5 H5 (((S1.trans S2).trans (S3.trans S4)).trans S5) r5⟩
    · exact ⟨_, rfl, w, ty, false, rfl, t1, k1, (fun z => nomatch z), fun _ d H' S e => q d H' S e⟩
theorem ok_Line_share {fd : FuncData} (F : Fun K "share" "Line.share" s_Line_share a.Line_share fd) (T : Txt K mg a)
    {fd_Ratio_divided : FuncData} (G_Ratio_divided : FnOk P w K mg base CX0 5 a.Ratio_divided fd_Ratio_divided ["self", "other"] (spBin0 a.Ratio gDiv)) (b_Ratio_divided : Binds K fd_Ratio_divided ["self", "other"] [])
    {fd_Point___sub__ : FuncData} (G_Point___sub__ : FnOk P w K mg base CX0 8 a.Point___sub__ fd_Point___sub__ ["self", "other"] (spPSub a.Ratio a.Point)) (b_Point___sub__ : Binds K fd_Point___sub__ ["self", "other"] [])
    {fd_Line_height : FuncData} (G_Line_height : FnOk P w K mg base (L2.CX P w) 9 a.Line_height fd_Line_height ["self", "point"] (spHeight K a.Ratio a.Point a.Line a.BadPoint)) (b_Line_height : Binds K fd_Line_height ["self", "point"] [])
    {fd_init : FuncData} (G_init : FnOk P w K mg base CX0 1 a.init fd_init ["self", "value"] (spErrInit K)) (b_init : Binds K fd_init ["self", "value"] []) :
    FnOk P w K mg base (L2.CX P w) 10 a.Line_share fd ["self", "point"] (spShare K a.Ratio a.Point a.Line a.BadPoint a.Off) := by
  refine F.okX sc_Line_share (fun vs H Q E h => ?len) (fun cdv A outer s H vs Q E hr h => ⟨_,
      (pss_cons (ps_if (pt_cmpR op_ne (pe_fld (pe_meth (pv 0) T.clL T.hg G_Line_height (hr.mono (by omega)) b_Line_height .nil (passes_call (takes_of rfl rfl rfl rfl) fun _ _ _ _ h => h) (pa_cons (pv 1) pa_nil)) rfl) pe_int (nomark _)) (pss_one (ps_raise rfl (takes_of rfl rfl rfl rfl) (pmk_oex T.c_Off.ox T.i_Off T.tI G_init (hr.mono (by omega)) b_init .nil pass0 (by rfl) T.g_Off (pa_cons (pv 1) pa_nil)))) pss_nil)
      (pss_cons (ps_set (i := 2) sc_Line_share.nd rfl (Or.inl rfl) (pe_op (op_binS T.oS (fnR G_Point___sub__ b_Point___sub__) (hr.mono (by omega)) pass0) (pe_fld (pv 0) rfl) (pe_fld (pv 0) rfl)))
      (pss_cons (ps_set (i := 3) sc_Line_share.nd rfl (Or.inl rfl) (pe_op (op_binS T.oS (fnR G_Point___sub__ b_Point___sub__) (hr.mono (by omega)) pass0) (pv 1) (pe_fld (pv 0) rfl)))
      (pss_one (ps_ret (pe_ifExp (pt_cmpR op_eq (pe_fld (pe_fld (pv 2) rfl) rfl) pe_int (nomark _)) (pe_meth (pe_fld (pv 3) rfl) T.cl T.dv G_Ratio_divided (hr.mono (by omega)) b_Ratio_divided .nil pass0 (pa_cons (pe_fld (pv 2) rfl) pa_nil)) (pe_meth (pe_fld (pv 3) rfl) T.cl T.dv G_Ratio_divided (hr.mono (by omega)) b_Ratio_divided .nil pass0 (pa_cons (pe_fld (pv 2) rfl) pa_nil)))))))), ?body⟩)
  case len => obtain ⟨v, w, X1, Y1, X2, Y2, rfl, _⟩ := h; rfl
  case body =>
    obtain ⟨v, w, X1, Y1, X2, Y2, rfl, hL, h⟩ := h
    obtain ⟨b, dx, v1, w1, rfl, hb, p1, p2⟩ := id hL
    rcases h with ⟨X, Y, pw, W, ne, q1, q2⟩ | ⟨no, q⟩
    · refine ⟨_, rfl, b, dx, _, rfl, hb, rfl, w, rfl, _, _, X1, Y1, X2, Y2, rfl, hL, .inl ⟨X, Y, pw, W, fun z1 H1 S1 r1 => ?_⟩⟩
      obtain ⟨g1, i1, rfl, hg1⟩ := r1
      refine ⟨_, _, _, _, _, rfl, hg1, T.cl, T.nN, rfl, rfl, _, rfl, ite2 (fun c => ?_) (fun c => ?_)⟩
      · have c0 : hq X1 Y1 X2 Y2 X Y ≠ 0 := fun z => by
          rw [z] at c
          exact absurd c (by decide)
        exact ⟨_, rfl, raise_told T.c_Off fun d H' S e => q1 c0 d H' (S1.trans S) e⟩
      · have c0 : hq X1 Y1 X2 Y2 X Y = 0 := num_zero.mp (by
          refine Decidable.byContradiction fun z => c ?_
          simpa using z)
        obtain ⟨c1, d1, x1, y1, rfl, hc1, r1, s1⟩ := id p1
        obtain ⟨c2, d2, x2, y2, rfl, hc2, r2, s2⟩ := id p2
        obtain ⟨e, d, x, y, rfl, hc, r, s⟩ := id pw
        refine ⟨_, rfl, _, _, _, _, _, rfl, S1 _ _ hb, T.clL, T.nB, rfl, _, rfl, _, _, _, _, _, rfl, S1 _ _ hb, T.clL, T.nA, rfl, ?_⟩
        refine ⟨c2, c1, _, _, _, _, rfl, rfl, S1 _ _ hc2, S1 _ _ hc1, _, _, X2, Y2, X1, Y1, rfl, p2.same S1, p1.same S1, W.a2, W.b2, W.a1, W.b1, fun z2 H2 S2' q3 => ?_⟩
        have S2 := S1.trans S2'
        refine ⟨_, rfl, _, rfl, _, _, _, _, _, rfl, S2 _ _ hb, T.clL, T.nA, rfl, ?_⟩
        refine ⟨e, c1, _, _, _, _, rfl, rfl, S2 _ _ hc, S2 _ _ hc1, _, _, X, Y, X1, Y1, rfl, pw.same S2, p1.same S2, W.a, W.b, W.a1, W.b1, fun z3 H3 S3' q4 => ?_⟩
        have S3 := S2.trans S3'
        obtain ⟨g1, i1, u1, v1, rfl, hg1, ⟨u1, ud1, rfl, hu1⟩, ⟨v1, vd1, rfl, hv1⟩⟩ := q3.same S3'
        obtain ⟨g2, i2, u2, v2, rfl, hg2, ⟨u2, ud2, rfl, hu2⟩, ⟨v2, vd2, rfl, hv2⟩⟩ := q4
        refine ⟨_, rfl, _, _, _, _, _, rfl, hg1, T.clP, T.nX, rfl, _, _, _, _, _, rfl, hu1, T.cl, T.nN, rfl, rfl, _, rfl, ite2 (fun c => ?_) (fun c => ?_)⟩
        · have z0 : X2 - X1 = 0 := num_zero.mp (by
            have z := of_decide_eq_true c
            injection z)
          have z1 : Y2 - Y1 ≠ 0 := fun z => ne (by constructor <;> grind)
          have es : shq X1 Y1 X2 Y2 X Y = (Y - Y1) / (Y2 - Y1) := if_pos z0
          rw [es] at q2
          refine ⟨_, rfl, _, _, _, _, _, rfl, hg2, T.clP, T.nY, rfl, v2, vd2, _, rfl, hv2, rfl, _, rfl, _, _, _, _, _, rfl, hg1, T.clP, T.nY, rfl, ?_⟩
          exact ⟨_, _, Y - Y1, Y2 - Y1, rfl, ⟨v2, vd2, rfl, hv2⟩, .inr ⟨v1, vd1, rfl, hv1⟩, W.gy, W.wy, z1, fun z H' S r => q2 c0 z H' (S3.trans S) r⟩
        · have z0 : X2 - X1 ≠ 0 := fun z => c (decide_eq_true (by show V.int (X2 - X1).num = V.int 0; rw [z]; rfl))
          have es : shq X1 Y1 X2 Y2 X Y = (X - X1) / (X2 - X1) := if_neg z0
          rw [es] at q2
          refine ⟨_, rfl, _, _, _, _, _, rfl, hg2, T.clP, T.nX, rfl, u2, ud2, _, rfl, hu2, rfl, _, rfl, _, _, _, _, _, rfl, hg1, T.clP, T.nX, rfl, ?_⟩
          exact ⟨_, _, X - X1, X2 - X1, rfl, ⟨u2, ud2, rfl, hu2⟩, .inr ⟨u1, ud1, rfl, hu1⟩, W.gx, W.wx, z0, fun z H' S r => q2 c0 z H' (S3.trans S) r⟩
    · exact ⟨_, rfl, b, dx, _, rfl, hb, rfl, w, rfl, _, _, X1, Y1, X2, Y2, rfl, hL, .inr ⟨no, q⟩⟩
theorem ok_Line___and__ {fd : FuncData} (F : Fun K "__and__" "Line.__and__" s_Line___and__ a.Line___and__ fd) (T : Txt K mg a)
    {fd_Point_towards : FuncData} (G_Point_towards : FnOk P w K mg base CX0 8 a.Point_towards fd_Point_towards ["self", "other", "share"] (spTw a.Ratio a.Point)) (b_Point_towards : Binds K fd_Point_towards ["self", "other", "share"] [])
    {fd_Ratio_divided : FuncData} (G_Ratio_divided : FnOk P w K mg base CX0 5 a.Ratio_divided fd_Ratio_divided ["self", "other"] (spBin0 a.Ratio gDiv)) (b_Ratio_divided : Binds K fd_Ratio_divided ["self", "other"] [])
    {fd_Ratio___sub__ : FuncData} (G_Ratio___sub__ : FnOk P w K mg base CX0 5 a.Ratio___sub__ fd_Ratio___sub__ ["self", "other"] (spBin a.Ratio gSub)) (b_Ratio___sub__ : Binds K fd_Ratio___sub__ ["self", "other"] [])
    {fd_Line_height : FuncData} (G_Line_height : FnOk P w K mg base (L2.CX P w) 9 a.Line_height fd_Line_height ["self", "point"] (spHeight K a.Ratio a.Point a.Line a.BadPoint)) (b_Line_height : Binds K fd_Line_height ["self", "point"] []) :
    FnOk P w K mg base CX0 10 a.Line___and__ fd ["self", "other"] (spAnd a.Ratio a.Point a.Line) := by
  refine F.ok sc_Line___and__ (fun vs H Q E h => ?len) (fun cdv A outer s H vs Q E hr h => ⟨_,
      (pss_cons (ps_if (pt_not (pt_val (pe_callB call_isi (by rfl) T.n_isinstance (by decide +kernel) (pa_cons (pv 1) (pa_cons (pe_glob (v := .ref a.Line) (by rfl) T.g_Line rfl) pa_nil))))) (pss_one ps_never) pss_nil)
      (pss_cons (ps_set (i := 2) sc_Line___and__.nd rfl (Or.inl rfl) (pe_meth (pv 0) T.clL T.hg G_Line_height (hr.mono (by omega)) b_Line_height .nil passF (pa_cons (pe_fld (pv 1) rfl) pa_nil)))
      (pss_cons (ps_set (i := 3) sc_Line___and__.nd rfl (Or.inl rfl) (pe_op (op_binK T.o_sub (fnR G_Ratio___sub__ b_Ratio___sub__) (hr.mono (by omega)) pass0) (pv 2) (pe_meth (pv 0) T.clL T.hg G_Line_height (hr.mono (by omega)) b_Line_height .nil passF (pa_cons (pe_fld (pv 1) rfl) pa_nil))))
      (pss_cons (ps_if (pt_cmpR op_eq (pe_fld (pv 3) rfl) pe_int (nomark _)) (pss_one (ps_ret pe_non)) pss_nil)
      (pss_one (ps_ret (pe_meth (pe_fld (pv 1) rfl) T.clP T.tw G_Point_towards (hr.mono (by omega)) b_Point_towards .nil pass0 (pa_cons (pe_fld (pv 1) rfl) (pa_cons (pe_meth (pv 2) T.cl T.dv G_Ratio_divided (hr.mono (by omega)) b_Ratio_divided .nil pass0 (pa_cons (pv 3) pa_nil)) pa_nil))))))))), ?body⟩)
  case len => obtain ⟨v, w, X1, Y1, X2, Y2, X3, Y3, X4, Y4, h3, h4, rfl, _⟩ := h; rfl
  case body =>
    obtain ⟨v, w, X1, Y1, X2, Y2, X3, Y3, X4, Y4, h3, h4, rfl, hL, hM, W3, W4, e3, e4, w3, w4, w34, q1, q2⟩ := h
    refine ⟨_, rfl, w, _, _, _, true, rfl, .own _, lnTy T hM, T.riL.ks, _, rfl, iteF ?_⟩
    obtain ⟨b, dx, v1, w1, rfl, hb, p1, p2⟩ := id hL
    obtain ⟨c, dy, v3, v4, rfl, hc, p3, p4⟩ := id hM
    refine ⟨_, rfl, b, dx, _, rfl, hb, rfl, _, rfl, _, _, _, _, _, rfl, hc, T.clL, T.nA, rfl, _, _, X1, Y1, X2, Y2, rfl, hL, .inl ⟨X3, Y3, p3, W3, fun z1 H1 S1 r1 => ?_⟩⟩
    rw [← e3] at r1
    refine ⟨_, rfl, _, rfl, b, dx, _, rfl, S1 _ _ hb, rfl, _, rfl, _, _, _, _, _, rfl, S1 _ _ hc, T.clL, T.nB, rfl, _, _, X1, Y1, X2, Y2, rfl, hL.same S1, .inl ⟨X4, Y4, p4.same S1, W4, fun z2 H2 S2 r2 => ?_⟩⟩
    rw [← e4] at r2
    obtain ⟨g1, i1, rfl, hg1⟩ := r1.same S2
    obtain ⟨g2, i2, rfl, hg2⟩ := r2
    refine ⟨g1, g2, _, _, _, _, rfl, rfl, hg1, hg2, _, _, h3, h4, rfl, ⟨g1, i1, rfl, hg1⟩, .inr ⟨g2, i2, rfl, hg2⟩, w3, w4, fun z3 H3 S3 r3 => ?_⟩
    obtain ⟨g3, i3, rfl, hg3⟩ := id r3
    have Sa := (S1.trans S2).trans S3
    refine ⟨_, rfl, _, _, _, _, _, rfl, hg3, T.cl, T.nN, rfl, rfl, _, rfl, ite2 (fun c => ?_) (fun c => ?_)⟩
    · have c0 : h3 - h4 = 0 := num_zero.mp (by
        have z := of_decide_eq_true c
        injection z)
      exact q1 c0 _ Sa
    · have c0 : h3 - h4 ≠ 0 := fun z => c (decide_eq_true (by show V.int (h3 - h4).num = V.int 0; rw [z]; rfl))
      obtain ⟨A, q⟩ := q2 c0
      obtain ⟨f3, k3, x3, y3, rfl, hf3, rx3, ry3⟩ := p3.same Sa
      refine ⟨_, rfl, _, _, _, _, _, rfl, Sa _ _ hc, T.clL, T.nA, rfl, f3, k3, _, rfl, hf3, rfl, _, rfl, _, _, _, _, _, rfl, Sa _ _ hc, T.clL, T.nB, rfl, ?_⟩
      refine ⟨_, rfl, g1, i1, _, rfl, S3 _ _ hg1, rfl, _, rfl, _, _, h3, h3 - h4, rfl, ⟨g1, i1, rfl, S3 _ _ hg1⟩, .inr r3, w3, w34, c0, fun z4 H4 S4 r4 => ?_⟩
      refine ⟨_, _, _, X3, Y3, X4, Y4, _, rfl, PtQ.same S4 ⟨f3, k3, x3, y3, rfl, hf3, rx3, ry3⟩, p4.same (Sa.trans S4), r4, W3.a, W3.b, W4.a, W4.b, A.s, A.x, A.y, A.xs, A.ys, fun z5 H5 S5 r5 => q z5 H5 ((Sa.trans S4).trans S5) r5⟩
theorem ok_Line___eq__ {fd : FuncData} (F : Fun K "__eq__" "Line.__eq__" s_Line___eq__ a.Line___eq__ fd) (T : Txt K mg a)
    {fd_Point___eq__ : FuncData} (G_Point___eq__ : FnOk P w K mg base CX0 4 a.Point___eq__ fd_Point___eq__ ["self", "other"] (spPEq K a.Ratio a.Point)) (b_Point___eq__ : Binds K fd_Point___eq__ ["self", "other"] []) :
    FnOk P w K mg base CX0 5 a.Line___eq__ fd ["self", "other"] (spLEq K a.Ratio a.Point a.Line) := by
  refine F.ok sc_Line___eq__ (fun vs H Q E h => ?len) (fun cdv A outer s H vs Q E hr h => ⟨_,
      (pss_one (ps_ret (pe_and (pe_callB call_isi (by rfl) T.n_isinstance (by decide +kernel) (pa_cons (pv 1) (pa_cons (pe_glob (v := .ref a.Line) (by rfl) T.g_Line rfl) pa_nil))) (pe_and (pe_cmpR (op_eqK T.eqp (fnR G_Point___eq__ b_Point___eq__) (hr.mono (by omega)) pass0) (pe_fld (pv 0) rfl) (pe_fld (pv 1) rfl) (nomark _)) (pe_one (pe_cmpR (op_eqK T.eqp (fnR G_Point___eq__ b_Point___eq__) (hr.mono (by omega)) pass0) (pe_fld (pv 0) rfl) (pe_fld (pv 1) rfl) (nomark _))))))), ?body⟩)
  case len => obtain ⟨v, w, X1, Y1, X2, Y2, rfl, _⟩ := h; rfl
  case body =>
    obtain ⟨v, w, X1, Y1, X2, Y2, rfl, hL, h⟩ := h
    rcases h with ⟨X3, Y3, X4, Y4, hM, q⟩ | ⟨⟨ty, t1, k1⟩, q⟩
    · refine ⟨_, rfl, w, _, _, _, true, rfl, .own _, lnTy T hM, T.riL.ks, true, rfl, iteT ?_⟩
      have nfC : PySem.W.notFirst K a.Point (.ref a.Point) = true := by simp [PySem.W.notFirst]
      obtain ⟨b, dx, v1, w1, rfl, hb, p1, p2⟩ := hL
      obtain ⟨c, dy, v3, v4, rfl, hc, p3, p4⟩ := hM
      obtain ⟨c1, d1, x1, y1, rfl, hc1, r1, s1⟩ := id p1
      obtain ⟨c2, d2, x2, y2, rfl, hc2, r2, s2⟩ := id p2
      obtain ⟨c3, d3, x3, y3, rfl, hc3, r3, s3⟩ := id p3
      obtain ⟨c4, d4, x4, y4, rfl, hc4, r4, s4⟩ := id p4
      refine ⟨_, rfl, _, _, _, _, _, rfl, hb, T.clL, T.nA, rfl, _, rfl, _, _, _, _, _, rfl, hc, T.clL, T.nA, rfl, ?_⟩
      refine ⟨c1, d1, _, _, rfl, hc1, .ins hc3, nfC, _, _, _, _, _, _, rfl, p1, p3, fun H1 S1 => ⟨_, rfl, ite2 (fun c => ?_) (fun c => ?_)⟩⟩
      · have g1 := of_decide_eq_true c
        refine ⟨_, rfl, _, _, _, _, _, rfl, S1 _ _ hb, T.clL, T.nB, rfl, _, rfl, _, _, _, _, _, rfl, S1 _ _ hc, T.clL, T.nB, rfl, ?_⟩
        refine ⟨c2, d2, _, _, rfl, S1 _ _ hc2, .ins (S1 _ _ hc4), nfC, _, _, _, _, _, _, rfl, p2.same S1, p4.same S1, fun H2 S2 => ?_⟩
        have e : decide (X2 = X4 ∧ Y2 = Y4) = decide ((X1 = X3 ∧ Y1 = Y3) ∧ (X2 = X4 ∧ Y2 = Y4)) := by
          by_cases k : X2 = X4 ∧ Y2 = Y4
          · rw [decide_eq_true k, decide_eq_true ⟨g1, k⟩]
          · rw [decide_eq_false k, decide_eq_false fun z => k z.2]
        rw [e]
        exact q _ (S1.trans S2)
      · have e : decide ((X1 = X3 ∧ Y1 = Y3) ∧ (X2 = X4 ∧ Y2 = Y4)) = false := decide_eq_false fun z => c (decide_eq_true z.1)
        have q := q _ S1
        rw [e] at q
        exact q
    · exact ⟨_, rfl, w, _, _, _, false, rfl, .own _, t1, k1, false, rfl, iteF q⟩
end
end My

namespace My
open PySem PySem.Spec PyProof.Rows L2 G
abbrev s__law_made_point : Stmt := topS 35
theorem sc__law_made_point : FnScope ["_law_dot"] ["_law_dot"] (defScope s__law_made_point) := ⟨rfl, rfl, rfl, by decide +kernel, rfl, by decide +kernel, by decide +kernel⟩

abbrev s__law_spot_of : Stmt := topS 36
theorem sc__law_spot_of : FnScope ["_law_point", "_law_x", "_law_y"] ["_law_point"] (defScope s__law_spot_of) := ⟨rfl, rfl, rfl, by decide +kernel, rfl, by decide +kernel, by decide +kernel⟩

abbrev s__law_spot_near : Stmt := topS 38
theorem sc__law_spot_near : FnScope ["_law_pot_here", "_law_far", "_law_x", "_law_y"] ["_law_pot_here"] (defScope s__law_spot_near) := ⟨rfl, rfl, rfl, by decide +kernel, rfl, by decide +kernel, by decide +kernel⟩

abbrev s__law_other_spot : Stmt := topS 39
theorem sc__law_other_spot : FnScope ["_law_pot_here", "_law_dot", "_law_other"] ["_law_pot_here", "_law_dot"] (defScope s__law_other_spot) := ⟨rfl, rfl, rfl, by decide +kernel, rfl, by decide +kernel, by decide +kernel⟩

abbrev s__law_difference : Stmt := topS 40
theorem sc__law_difference : FnScope ["_law_one", "_law_other", "_law_x"] ["_law_one", "_law_other"] (defScope s__law_difference) := ⟨rfl, rfl, rfl, by decide +kernel, rfl, by decide +kernel, by decide +kernel⟩

abbrev s__law_cross_of : Stmt := topS 41
theorem sc__law_cross_of : FnScope ["_law_one", "_law_other", "_law_left", "_law_right_here"] ["_law_one", "_law_other"] (defScope s__law_cross_of) := ⟨rfl, rfl, rfl, by decide +kernel, rfl, by decide +kernel, by decide +kernel⟩

abbrev s__law_along : Stmt := topS 42
theorem sc__law_along : FnScope ["_law_one", "_law_other", "_law_share", "_law_way", "_law_above", "_law_under", "_law_x", "_law_y"] ["_law_one", "_law_other", "_law_share"] (defScope s__law_along) := ⟨rfl, rfl, rfl, by decide +kernel, rfl, by decide +kernel, by decide +kernel⟩

abbrev s__law_meets : Stmt := topS 44
theorem sc__law_meets : FnScope ["_law_one", "_law_other", "_law_third", "_law_fourth", "_law_way", "_law_its", "_law_off", "_law_by", "_law_share"] ["_law_one", "_law_other", "_law_third", "_law_fourth"] (defScope s__law_meets) := ⟨rfl, rfl, rfl, by decide +kernel, rfl, by decide +kernel, by decide +kernel⟩

abbrev s__law_beside : Stmt := topS 45
theorem sc__law_beside : FnScope ["_law_one", "_law_other", "_law_third", "_law_under", "_law_x", "_law_y"] ["_law_one", "_law_other", "_law_third"] (defScope s__law_beside) := ⟨rfl, rfl, rfl, by decide +kernel, rfl, by decide +kernel, by decide +kernel⟩

/-- the way from a spot to another -/
def WayAt (H : Hp) (v : V) (A B : Rat) : Prop := ∃ b x y, v = .ref b ∧ H b = some (.tup [.ref x, .ref y]) ∧ PairQ H (.ref x) A ∧ PairQ H (.ref y) B
theorem WayAt.same {H H' : Hp} {v : V} {A B : Rat} (S : Same H H') (h : WayAt H v A B) : WayAt H' v A B := let ⟨b, x, y, e, h1, h2, h3⟩ := h; ⟨b, x, y, e, S _ _ h1, h2.same S, h3.same S⟩
theorem SpAt.go {p : Addr} {k j : Nat} {H H' : Hp} {v : V} {X Y : Rat} (h : SpAt H v X Y) (pt : PotAt H p k) (g : Go p j H H') : SpAt H' v X Y := by
  obtain ⟨q, x, y, d, rfl, e, c⟩ := h
  refine ⟨q, x, y, d, rfl, g.at e fun z => ?_, c⟩
  obtain ⟨_, _, _, f, _⟩ := pt
  rw [z, f] at e
  cases e
theorem can_wd {x y d : Int} {X Y : Rat} (c : Can x y d X Y) (hX : Wq X) (hY : Wq Y) : Wd x ∧ Wd y ∧ Wd d :=
  let ⟨h1, h2, h3⟩ := c.sz hX hY
  ⟨wd_of h1 (by decide), wd_of h2 (by decide), wd_of h3 (by decide)⟩
abbrev dotD (x y d : Int) : PyData := .tuple [.int x, .int y, .int d]
theorem dot_eqv {x y d x' y' d' : Int} : PyData.eqv (dotD x y d) (dotD x' y' d') = decide (x = x' ∧ y = y' ∧ d = d') := by
  rw [Bool.eq_iff_iff]
  simp [PyData.eqv, PyData.eqvAll]
theorem dot_shaped {x y d : Int} : SeqAt.shaped (dotD x y d) = true := rfl
theorem dot_dp {K : PySem.W.Frag} {H : Hp} {p : Addr} {x y d : Int} (h : H p = some (.tup [.int x, .int y, .int d])) : Dp K H (.ref p) (dotD x y d) := .tup (SqT.of h) (.cons (.int _) (.cons (.int _) (.cons (.int _) .nil)))
theorem wd_ud3 {i j k : Int} (h : Wd i) (h' : Wd j) (h'' : Wd k) : Ud (i * j * k) := by
  have z : (i * j * k).natAbs < 2 ^ (4000 + 2000) := wide_lt (wd_mul h h') h''
  exact Nat.lt_of_lt_of_le z (Nat.pow_le_pow_right (by decide) (by decide))
theorem mk_q2 {K : PySem.W.Frag} {C x dx : Addr} {H : Hp} {n u : Int} {P : VK} (h0 : u ≠ 0) (h1 : Ud u) (hx : H x = none) (hdx : H dx = none) (ne : dx ≠ x) (q : ∀ H', Same H H' → RatQ C H' (.ref x) (Rat.divInt n u) → P .non H') :
    spInit K C [.ref x, .int n, .int u] (upd (upd H dx (.own x)) x (.ins C dx [])) P E0 := by
  refine ⟨x, dx, n, u, rfl, h0, h1, upd_same, q _ (fun b o e => ?_) ⟨x, dx, rfl, ?_⟩⟩
  · rw [upd_ne (ne_of_none e hx), upd_ne (ne_of_none e hx), upd_ne (ne_of_none e hdx)]
    exact e
  · rw [upd_same, (rq h0).1, (rq h0).2]
def spMadeP (C CP : Addr) : Sp := fun vs H Q _ => ∃ v X Y, vs = [v] ∧ SpAt H v X Y ∧ Wq X ∧ Wq Y ∧ ∀ z H', Same H H' → PtQ C CP H' z X Y → Q z H'
def spSpotOf (C CP : Addr) : Sp := fun vs H Q _ => ∃ v X Y, vs = [v] ∧ PtQ C CP H v X Y ∧ Wq X ∧ Wq Y ∧ ∀ z H', Same H H' → SpAt H' z X Y → Q z H'
def spNear : Sp := fun vs H Q _ => ∃ (p : Addr) (k : Nat), vs = [.ref p] ∧ PotAt H p k ∧ k ≤ 90000 ∧ ∀ z H' X Y, Go p (k + 4) H H' → SpAt H' z X Y → Sz 3 1 X → Sz 3 1 Y → Q z H'
def spOther : Sp := fun vs H Q _ => ∃ (p : Addr) (k : Nat) (v : V) (X Y : Rat), vs = [.ref p, v] ∧ PotAt H p k ∧ k ≤ 90000 ∧ SpAt H v X Y ∧ Sz 3 1 X ∧ Sz 3 1 Y ∧ ∀ z H' X' Y', Go p (k + 4) H H' → SpAt H' z X' Y' → Sz 4 1 X' → Sz 4 1 Y' → ¬ (X = X' ∧ Y = Y') → Q z H'
def spDif : Sp := fun vs H Q _ => ∃ v w X1 Y1 X2 Y2, vs = [v, w] ∧ SpAt H v X1 Y1 ∧ SpAt H w X2 Y2 ∧ Wq X1 ∧ Wq Y1 ∧ Wq X2 ∧ Wq Y2 ∧ ∀ z H', Same H H' → WayAt H' z (X2 - X1) (Y2 - Y1) → Q z H'
def spCross : Sp := fun vs H Q _ => ∃ v w A B C D, vs = [v, w] ∧ WayAt H v A B ∧ WayAt H w C D ∧ Wq A ∧ Wq B ∧ Wq C ∧ Wq D ∧ ∀ z H', Same H H' → PairQ H' z (A * D - B * C) → Q z H'
def spAlong : Sp := fun vs H Q _ => ∃ v w sh X1 Y1 X2 Y2 s r, vs = [v, w, sh] ∧ SpAt H v X1 Y1 ∧ SpAt H w X2 Y2 ∧ PairAt H sh s r ∧ r ≠ 0 ∧ Wd s ∧ Wd r ∧ Wq X1 ∧ Wq Y1 ∧ Wq X2 ∧ Wq Y2 ∧ Wq (X2 - X1) ∧ Wq (Y2 - Y1) ∧ Wq (X1 + (X2 - X1) * Rat.divInt s r) ∧ Wq (Y1 + (Y2 - Y1) * Rat.divInt s r) ∧
  ∀ z H', Same H H' → SpAt H' z (X1 + (X2 - X1) * Rat.divInt s r) (Y1 + (Y2 - Y1) * Rat.divInt s r) → Q z H'
/-- how much the two ways cross, and how far the meeting is -/
def crB (X1 Y1 X2 Y2 X3 Y3 X4 Y4 : Rat) : Rat := (X2 - X1) * (Y4 - Y3) - (Y2 - Y1) * (X4 - X3)
def crS (X1 Y1 X3 Y3 X4 Y4 : Rat) : Rat := (X3 - X1) * (Y4 - Y3) - (Y3 - Y1) * (X4 - X3)
structure MW (X1 Y1 X2 Y2 X3 Y3 X4 Y4 B S : Rat) : Prop where
  a1 : Wq X1
  b1 : Wq Y1
  a2 : Wq X2
  b2 : Wq Y2
  a3 : Wq X3
  b3 : Wq Y3
  a4 : Wq X4
  b4 : Wq Y4
  wx : Wq (X2 - X1)
  wy : Wq (Y2 - Y1)
  ix : Wq (X4 - X3)
  iy : Wq (Y4 - Y3)
  ox : Wq (X3 - X1)
  oy : Wq (Y3 - Y1)
  b : Wq B
  s : Wq S
  sb : B ≠ 0 → Wq (S / B)
  rx : B ≠ 0 → Wq (X1 + (X2 - X1) * (S / B))
  ry : B ≠ 0 → Wq (Y1 + (Y2 - Y1) * (S / B))
def spMeets : Sp := fun vs H Q _ => ∃ v1 v2 v3 v4 X1 Y1 X2 Y2 X3 Y3 X4 Y4 B S, vs = [v1, v2, v3, v4] ∧ SpAt H v1 X1 Y1 ∧ SpAt H v2 X2 Y2 ∧ SpAt H v3 X3 Y3 ∧ SpAt H v4 X4 Y4 ∧ B = crB X1 Y1 X2 Y2 X3 Y3 X4 Y4 ∧ S = crS X1 Y1 X3 Y3 X4 Y4 ∧ MW X1 Y1 X2 Y2 X3 Y3 X4 Y4 B S ∧
  (B = 0 → ∀ H', Same H H' → Q .non H') ∧ (B ≠ 0 → ∀ z H', Same H H' → SpAt H' z (X1 + (X2 - X1) * (S / B)) (Y1 + (Y2 - Y1) * (S / B)) → Q z H')
def spBeside : Sp := fun vs H Q _ => ∃ v1 v2 v3 X1 Y1 X2 Y2 X3 Y3, vs = [v1, v2, v3] ∧ SpAt H v1 X1 Y1 ∧ SpAt H v2 X2 Y2 ∧ SpAt H v3 X3 Y3 ∧ Wq X1 ∧ Wq Y1 ∧ Wq X2 ∧ Wq Y2 ∧ Wq X3 ∧ Wq Y3 ∧ ∀ z H', Same H H' → SpAt H' z (X3 + (X2 - X1)) (Y3 + (Y2 - Y1)) → Q z H'
theorem crossX (X Y : Rat) : Rat.divInt (X.num * (Y.den : Int)) ((X.den : Int) * (Y.den : Int)) = X := by
  have e1 := q_eq X
  have h1 := qd_ne X
  have h2 := qd_ne Y
  simp only [div_eq, Rat.intCast_mul]
  grind
theorem crossY (X Y : Rat) : Rat.divInt (Y.num * (X.den : Int)) ((X.den : Int) * (Y.den : Int)) = Y := by
  have e1 := q_eq Y
  have h1 := qd_ne X
  have h2 := qd_ne Y
  simp only [div_eq, Rat.intCast_mul]
  grind
section
variable {P : Program} {w : World} {K : PySem.W.Frag} {mg : Str → Option Value} {base : Heap} {a : Ad}
theorem ok__law_made_point {fd : FuncData} (F : Fun K "_law_made_point" "_law_made_point" s__law_made_point a._law_made_point fd) (T : Txt K mg a)
    {fd_Point___init__ : FuncData} (G_Point___init__ : FnOk P w K mg base CX0 6 a.Point___init__ fd_Point___init__ ["self", "x", "y"] (spPInit a.Ratio a.Point)) (b_Point___init__ : Binds K fd_Point___init__ ["self", "x", "y"] [])
    {fd_Ratio___init__ : FuncData} (G_Ratio___init__ : FnOk P w K mg base CX0 2 a.Ratio___init__ fd_Ratio___init__ ["self", "number", "under"] (spInit K a.Ratio)) (b_Ratio___init__ : Binds K fd_Ratio___init__ ["self", "number", "under"] [])
    {ds_Ratio___init__ : List Value} (d_Ratio___init__ : Vals [.int 1] ds_Ratio___init__ ∧ Binds K fd_Ratio___init__ ["self", "number", "under"] ds_Ratio___init__) :
    Fn P w K mg base CX0 8 a._law_made_point fd ["_law_dot"] (spMadeP a.Ratio a.Point) := by
  refine ok F sc__law_made_point (fun vs H Q E h => ?len) (fun cdv A outer s H vs Q E hq hr h => ⟨_,
      (pss_one (ps_ret (pe_make T.m_Point G_Point___init__ (hr.mono (by omega)) (by rfl) T.g_Point b_Point___init__ .nil pass0 (pa_cons (pe_make T.m_Ratio G_Ratio___init__ (hr.mono (by omega)) (by rfl) T.g_Ratio b_Ratio___init__ .nil pass0 (pa_cons (pe_ix ix_tup (pv 0) pe_int (fun _ _ => rfl)) (pa_cons (pe_ix ix_tup (pv 0) pe_int (fun _ _ => rfl)) pa_nil))) (pa_cons (pe_make T.m_Ratio G_Ratio___init__ (hr.mono (by omega)) (by rfl) T.g_Ratio b_Ratio___init__ .nil pass0 (pa_cons (pe_ix ix_tup (pv 0) pe_int (fun _ _ => rfl)) (pa_cons (pe_ix ix_tup (pv 0) pe_int (fun _ _ => rfl)) pa_nil))) pa_nil))))), ?body⟩)
  case len => obtain ⟨v, X, Y, rfl, _⟩ := h; rfl
  case body =>
    obtain ⟨v, X, Y, rfl, ⟨p, x, y, d, rfl, hp, c⟩, w1, w2, q⟩ := h
    obtain ⟨l1, l2, l3⟩ := can_wd c w1 w2
    refine ⟨_, rfl, _, _, _, _, rfl, rfl, SqT.of hp, rfl, _, rfl, _, _, _, _, rfl, rfl, SqT.of hp, rfl, ?_⟩
    intro z1 e1 f1 f2 f3
    refine mk_q2 c.ne (wd_ud l3) f1 f2 f3 fun H1 S1 r1 => ⟨rfl, ?_⟩
    rw [← c.hx] at r1
    refine ⟨_, rfl, _, _, _, _, rfl, rfl, SqT.of (S1 _ _ hp), rfl, _, rfl, _, _, _, _, rfl, rfl, SqT.of (S1 _ _ hp), rfl, ?_⟩
    intro z2 e2 f4 f5 f6
    refine mk_q2 c.ne (wd_ud l3) f4 f5 f6 fun H2 S2 r2 => ⟨rfl, ?_⟩
    rw [← c.hy] at r2
    intro x dx c8 c9 c10
    exact mk_pt (.inr (r1.same S2)) (.inr r2) c8 c9 c10 fun H3 S3 pt => ⟨rfl, q _ H3 ((S1.trans S2).trans S3) pt⟩
theorem ok__law_spot_of {fd : FuncData} (F : Fun K "_law_spot_of" "_law_spot_of" s__law_spot_of a._law_spot_of fd) (T : Txt K mg a)
    {fd__law_spot : FuncData} (G__law_spot : Fn P w K mg base CX0 2 a._law_spot fd__law_spot ["_law_x", "_law_y", "_law_d"] spSpot) (b__law_spot : Binds K fd__law_spot ["_law_x", "_law_y", "_law_d"] []) :
    Fn P w K mg base CX0 3 a._law_spot_of fd ["_law_point"] (spSpotOf a.Ratio a.Point) := by
  refine ok F sc__law_spot_of (fun vs H Q E h => ?len) (fun cdv A outer s H vs Q E hq hr h => ⟨_,
      (pss_cons (ps_par (i := 1) (j := 2) (by rfl) sc__law_spot_of.nd rfl rfl (by decide) rfl rfl (pa_cons (pe_fld (pv 0) rfl) (pa_cons (pe_fld (pv 0) rfl) pa_nil)) (by rfl))
      (pss_one (ps_ret (pe_fn G__law_spot hq (hr.mono (by omega)) (by rfl) T.g__law_spot T.k__law_spot b__law_spot .nil pass0 (pa_cons (pe_op op_mulW (pe_fld (pv 1) rfl) (pe_fld (pv 2) rfl)) (pa_cons (pe_op op_mulW (pe_fld (pv 2) rfl) (pe_fld (pv 1) rfl)) (pa_cons (pe_op op_mulW (pe_fld (pv 1) rfl) (pe_fld (pv 2) rfl)) pa_nil))))))), ?body⟩)
  case len => obtain ⟨v, X, Y, rfl, _⟩ := h; rfl
  case body =>
    obtain ⟨v, X, Y, rfl, ⟨b, dx, v1, w1, rfl, hb, ⟨x, xd, rfl, hx⟩, ⟨y, yd, rfl, hy⟩⟩, wX, wY, q⟩ := h
    refine ⟨_, rfl, _, _, _, _, _, rfl, hb, T.clP, T.nX, rfl, _, rfl, _, _, _, _, _, rfl, hb, T.clP, T.nY, rfl, _, _, rfl, ?_⟩
    refine ⟨_, rfl, _, _, _, _, _, rfl, hx, T.cl, T.nN, rfl, _, rfl, _, _, _, _, _, rfl, hy, T.cl, T.nU, rfl, _, _, rfl, rfl, cw (wd_ud wX.wn) (wd_ud wY.wd), ?_⟩
    refine ⟨_, rfl, _, _, _, _, _, rfl, hy, T.cl, T.nN, rfl, _, rfl, _, _, _, _, _, rfl, hx, T.cl, T.nU, rfl, _, _, rfl, rfl, cw (wd_ud wY.wn) (wd_ud wX.wd), ?_⟩
    refine ⟨_, rfl, _, _, _, _, _, rfl, hx, T.cl, T.nU, rfl, _, rfl, _, _, _, _, _, rfl, hy, T.cl, T.nU, rfl, _, _, rfl, rfl, cw (wd_ud wX.wd) (wd_ud wY.wd), ?_⟩
    refine ⟨_, _, _, rfl, prod_ne X Y, wd_ud2 wX.wd wY.wd, fun p H1 np S1 r1 => ?_⟩
    rw [crossX, crossY] at r1
    exact q _ H1 S1 r1
theorem ok__law_spot_near {fd : FuncData} (F : Fun K "_law_spot_near" "_law_spot_near" s__law_spot_near a._law_spot_near fd) (T : Txt K mg a)
    {fd__law_spot : FuncData} (G__law_spot : Fn P w K mg base CX0 2 a._law_spot fd__law_spot ["_law_x", "_law_y", "_law_d"] spSpot) (b__law_spot : Binds K fd__law_spot ["_law_x", "_law_y", "_law_d"] [])
    {fd__law_of : FuncData} (G__law_of : Fn P w K mg base CX0 2 a._law_of fd__law_of ["_law_pot_here", "_law_some"] spOf) (b__law_of : Binds K fd__law_of ["_law_pot_here", "_law_some"] [])
    {fd__law_take : FuncData} (G__law_take : Fn P w K mg base CX0 1 a._law_take fd__law_take ["_law_pot_here", "_law_upto"] spTake) (b__law_take : Binds K fd__law_take ["_law_pot_here", "_law_upto"] []) :
    Fn P w K mg base CX0 3 a._law_spot_near fd ["_law_pot_here"] spNear := by
  refine ok F sc__law_spot_near (fun vs H Q E h => ?len) (fun cdv A outer s H vs Q E hq hr h => ⟨_,
      (pss_cons (ps_set (i := 1) sc__law_spot_near.nd rfl (Or.inl rfl) (pe_fn G__law_of hq (hr.mono (by omega)) (by rfl) T.g__law_of T.k__law_of b__law_of .nil pass0 (pa_cons (pv 0) (pa_cons (pe_lstS (pa_cons pe_int (pa_cons pe_int (pa_cons pe_int (pa_cons pe_int pa_nil))))) pa_nil))))
      (pss_cons (ps_par (i := 2) (j := 3) (by rfl) sc__law_spot_near.nd rfl rfl (by decide) rfl rfl (pa_cons (pe_op op_sub (pe_fn G__law_take hq (hr.mono (by omega)) (by rfl) T.g__law_take T.k__law_take b__law_take .nil pass0 (pa_cons (pv 0) (pa_cons (pe_op op_add (pe_op op_mulW pe_int (pv 1)) pe_int) pa_nil))) (pv 1)) (pa_cons (pe_op op_sub (pe_fn G__law_take hq (hr.mono (by omega)) (by rfl) T.g__law_take T.k__law_take b__law_take .nil pass0 (pa_cons (pv 0) (pa_cons (pe_op op_add (pe_op op_mulW pe_int (pv 1)) pe_int) pa_nil))) (pv 1)) pa_nil)) (by rfl))
      (pss_one (ps_ret (pe_fn G__law_spot hq (hr.mono (by omega)) (by rfl) T.g__law_spot T.k__law_spot b__law_spot .nil pass0 (pa_cons (pv 2) (pa_cons (pv 3) (pa_cons (pe_fn G__law_of hq (hr.mono (by omega)) (by rfl) T.g__law_of T.k__law_of b__law_of .nil pass0 (pa_cons (pv 0) (pa_cons (pe_lstS (pa_cons pe_int (pa_cons pe_int (pa_cons pe_int (pa_cons pe_int (pa_cons pe_int pa_nil)))))) pa_nil))) pa_nil)))))))), ?body⟩)
  case len => obtain ⟨p, k, rfl, _⟩ := h; rfl
  case body =>
    obtain ⟨p, k, rfl, pot, hk, q⟩ := h
    refine ⟨_, rfl, (by show 4 ≤ sizeLine; decide), fun l hl sl => ?_⟩
    have S1 : ∀ o, Same H (upd H l o) := fun o => same_new hl
    have nl : l ≠ p := fun z => pot.has (by rw [← z]; exact hl)
    refine ⟨p, l, k, _, rfl, nl, pot.same (S1 _), by omega, upd_same, (by simp), (by show 4 ≤ 10 ^ 6; decide), fun x H1 hx g1 => ?_⟩
    have g01 : Go p (k + 1) H H1 := Go.of (S1 _) g1
    obtain ⟨f, rfl, f0, f1⟩ : ∃ f : Int, x = .int f ∧ 3 ≤ f ∧ f ≤ 999 := by
      simp only [List.mem_cons, List.not_mem_nil, or_false] at hx
      rcases hx with rfl | rfl | rfl | rfl <;> exact ⟨_, rfl, by omega, by omega⟩
    have cm : CMulW 2 f := cw (show Ud 2 by show (2 : Int).natAbs < 2 ^ 8000; exact Nat.lt_of_lt_of_le (m := 2 ^ 2) (by decide) (Nat.pow_le_pow_right (by decide) (by decide))) (show Ud f from Nat.lt_of_lt_of_le (m := 2 ^ 10) (by omega) (Nat.pow_le_pow_right (by decide) (by decide)))
    refine ⟨_, rfl, _, rfl, _, _, rfl, rfl, cm, _, _, rfl, rfl, p, _, k + 1, rfl, g01.pot, by omega, by omega, by omega, fun d1 H2 a1 b1 g2 => ?_⟩
    refine ⟨_, rfl, _, _, rfl, rfl, ?_⟩
    refine ⟨_, rfl, _, rfl, _, _, rfl, rfl, cm, _, _, rfl, rfl, p, _, k + 2, rfl, g2.pot, by omega, by omega, by omega, fun d2 H3 a2 b2 g3 => ?_⟩
    refine ⟨_, rfl, _, _, rfl, rfl, _, _, rfl, ?_⟩
    have g03 : Go p (k + 3) H H3 := (g01.trans g2).trans g3
    refine ⟨_, rfl, _, rfl, _, rfl, (by show 5 ≤ sizeLine; decide), fun l4 hl4 sl4 => ?_⟩
    have S4 : ∀ o, Same H3 (upd H3 l4 o) := fun o => same_new hl4
    have nl4 : l4 ≠ p := fun z => g03.pot.has (by rw [← z]; exact hl4)
    refine ⟨p, l4, k + 3, _, rfl, nl4, g03.pot.same (S4 _), by omega, upd_same, (by simp), (by show 5 ≤ 10 ^ 6; decide), fun y H5 hy g5 => ?_⟩
    have g05 : Go p (k + 4) H H5 := g03.trans (Go.of (S4 _) g5)
    obtain ⟨j, rfl, j0, j1⟩ : ∃ j : Int, y = .int j ∧ 1 ≤ j ∧ j ≤ 10 := by
      simp only [List.mem_cons, List.not_mem_nil, or_false] at hy
      rcases hy with rfl | rfl | rfl | rfl | rfl <;> exact ⟨_, rfl, by omega, by omega⟩
    have j2 : j ≠ 0 := by omega
    refine ⟨_, _, j, rfl, j2, Nat.lt_of_lt_of_le (m := 2 ^ 10) (by omega) (Nat.pow_le_pow_right (by decide) (by decide)), fun z H6 np S6 r6 => ?_⟩
    exact q _ H6 _ _ ⟨g05.keep.trans (mask_mono S6), g05.pot.same S6⟩ r6 (sz_div j2 (by omega) (by omega)) (sz_div j2 (by omega) (by omega))
theorem ok__law_other_spot {fd : FuncData} (F : Fun K "_law_other_spot" "_law_other_spot" s__law_other_spot a._law_other_spot fd) (T : Txt K mg a)
    {fd__law_spot : FuncData} (G__law_spot : Fn P w K mg base CX0 2 a._law_spot fd__law_spot ["_law_x", "_law_y", "_law_d"] spSpot) (b__law_spot : Binds K fd__law_spot ["_law_x", "_law_y", "_law_d"] [])
    {fd__law_spot_near : FuncData} (G__law_spot_near : Fn P w K mg base CX0 3 a._law_spot_near fd__law_spot_near ["_law_pot_here"] spNear) (b__law_spot_near : Binds K fd__law_spot_near ["_law_pot_here"] []) :
    Fn P w K mg base CX0 4 a._law_other_spot fd ["_law_pot_here", "_law_dot"] spOther := by
  refine ok F sc__law_other_spot (fun vs H Q E h => ?len) (fun cdv A outer s H vs Q E hq hr h => ⟨_,
      (pss_cons (ps_set (i := 2) sc__law_other_spot.nd rfl (Or.inl rfl) (pe_fn G__law_spot_near hq (hr.mono (by omega)) (by rfl) T.g__law_spot_near T.k__law_spot_near b__law_spot_near .nil pass0 (pa_cons (pv 0) pa_nil)))
      (pss_one (ps_ret (pe_ifExp (pt_cmpR (op_neD hr.units) (pv 2) (pv 1) (nomark _)) (pv 2) (pe_fn G__law_spot hq (hr.mono (by omega)) (by rfl) T.g__law_spot T.k__law_spot b__law_spot .nil pass0 (pa_cons (pe_op op_add (pe_ix ix_tup (pv 1) pe_int (fun _ _ => rfl)) (pe_ix ix_tup (pv 1) pe_int (fun _ _ => rfl))) (pa_cons (pe_op op_sub (pe_ix ix_tup (pv 1) pe_int (fun _ _ => rfl)) (pe_ix ix_tup (pv 1) pe_int (fun _ _ => rfl))) (pa_cons (pe_ix ix_tup (pv 1) pe_int (fun _ _ => rfl)) pa_nil)))))))), ?body⟩)
  case len => obtain ⟨p, k, v, X, Y, rfl, _⟩ := h; rfl
  case body =>
    obtain ⟨p, k, v, X, Y, rfl, pot, hk, hv, s1, s2, q⟩ := h
    refine ⟨_, rfl, p, k, rfl, pot, hk, fun z H1 X' Y' g1 r1 s3 s4 => ?_⟩
    obtain ⟨b, x, y, d, rfl, hb, c⟩ := hv.go pot g1
    obtain ⟨b', x', y', d', rfl, hb', c'⟩ := id r1
    refine ⟨_, rfl, _, rfl, _, _, dot_dp hb', dot_dp hb, dot_shaped, dot_shaped, _, rfl, ite2 (fun e => ?_) (fun e => ?_)⟩
    · rw [dot_eqv] at e
      refine ⟨_, rfl, ?_⟩
      refine q _ H1 X' Y' g1 r1 (s3.mono (by decide) (by decide)) (s4.mono (by decide) (by decide)) fun z => ?_
      have := (c.iff c').mpr z
      obtain ⟨rfl, rfl, rfl⟩ := this
      simp at e
    · obtain ⟨l1, l2, l3⟩ := can_wd c (s1.w (by decide) (by decide)) (s2.w (by decide) (by decide))
      refine ⟨_, rfl, _, _, _, _, rfl, rfl, SqT.of hb, rfl, _, rfl, _, _, _, _, rfl, rfl, SqT.of hb, rfl, _, _, rfl, rfl, ?_⟩
      refine ⟨_, rfl, _, _, _, _, rfl, rfl, SqT.of hb, rfl, _, rfl, _, _, _, _, rfl, rfl, SqT.of hb, rfl, _, _, rfl, rfl, ?_⟩
      refine ⟨_, rfl, _, _, _, _, rfl, rfl, SqT.of hb, rfl, ?_⟩
      refine ⟨_, _, d, rfl, c.ne, wd_ud l3, fun p2 H2 np S2 r2 => ?_⟩
      have d0 := i_ne c.ne
      have eX : Rat.divInt (x + d) d = X + 1 := by
        have := c.hx
        simp only [div_eq, Rat.intCast_add] at this ⊢
        grind
      have eY : Rat.divInt (y - d) d = Y - 1 := by
        have := c.hy
        simp only [div_eq, Rat.intCast_sub] at this ⊢
        grind
      rw [eX, eY] at r2
      have one : Sz 0 0 1 := ⟨by decide, by decide⟩
      refine q _ H2 _ _ ⟨g1.keep.trans (mask_mono S2), g1.pot.same S2⟩ r2 (s1.add one (by decide) (by decide) (by decide)) (s2.sub one (by decide) (by decide) (by decide)) fun z => ?_
      have := z.1
      grind
theorem ok__law_difference {fd : FuncData} (F : Fun K "_law_difference" "_law_difference" s__law_difference a._law_difference fd) (T : Txt K mg a)
    {fd__law_pair : FuncData} (G__law_pair : Fn P w K mg base CX0 2 a._law_pair fd__law_pair ["_law_above", "_law_under"] spPair) (b__law_pair : Binds K fd__law_pair ["_law_above", "_law_under"] []) :
    Fn P w K mg base CX0 3 a._law_difference fd ["_law_one", "_law_other"] spDif := by
  refine ok F sc__law_difference (fun vs H Q E h => ?len) (fun cdv A outer s H vs Q E hq hr h => ⟨_,
      (pss_cons (ps_set (i := 2) sc__law_difference.nd rfl (Or.inl rfl) (pe_fn G__law_pair hq (hr.mono (by omega)) (by rfl) T.g__law_pair T.k__law_pair b__law_pair .nil pass0 (pa_cons (pe_op op_sub (pe_op op_mulW (pe_ix ix_tup (pv 1) pe_int (fun _ _ => rfl)) (pe_ix ix_tup (pv 0) pe_int (fun _ _ => rfl))) (pe_op op_mulW (pe_ix ix_tup (pv 0) pe_int (fun _ _ => rfl)) (pe_ix ix_tup (pv 1) pe_int (fun _ _ => rfl)))) (pa_cons (pe_op op_mulW (pe_ix ix_tup (pv 0) pe_int (fun _ _ => rfl)) (pe_ix ix_tup (pv 1) pe_int (fun _ _ => rfl))) pa_nil))))
      (pss_one (ps_ret (pe_tup (pa_cons (pv 2) (pa_cons (pe_fn G__law_pair hq (hr.mono (by omega)) (by rfl) T.g__law_pair T.k__law_pair b__law_pair .nil pass0 (pa_cons (pe_op op_sub (pe_op op_mulW (pe_ix ix_tup (pv 1) pe_int (fun _ _ => rfl)) (pe_ix ix_tup (pv 0) pe_int (fun _ _ => rfl))) (pe_op op_mulW (pe_ix ix_tup (pv 0) pe_int (fun _ _ => rfl)) (pe_ix ix_tup (pv 1) pe_int (fun _ _ => rfl)))) (pa_cons (pe_op op_mulW (pe_ix ix_tup (pv 0) pe_int (fun _ _ => rfl)) (pe_ix ix_tup (pv 1) pe_int (fun _ _ => rfl))) pa_nil))) pa_nil)))))), ?body⟩)
  case len => obtain ⟨v, w, X1, Y1, X2, Y2, rfl, _⟩ := h; rfl
  case body =>
    obtain ⟨v, w, X1, Y1, X2, Y2, rfl, ⟨b1, x1, y1, d1, rfl, h1, c1⟩, ⟨b2, x2, y2, d2, rfl, h2, c2⟩, w1, w2, w3, w4, q⟩ := h
    obtain ⟨l1, l2, l3⟩ := can_wd c1 w1 w2
    obtain ⟨m1, m2, m3⟩ := can_wd c2 w3 w4
    have n1 := i_ne c1.ne
    have n2 := i_ne c2.ne
    have eX : Rat.divInt (x2 * d1 - x1 * d2) (d1 * d2) = X2 - X1 := by
      have e1 := c1.hx
      have e2 := c2.hx
      simp only [div_eq, Rat.intCast_mul, Rat.intCast_sub] at e1 e2 ⊢
      grind
    have eY : Rat.divInt (y2 * d1 - y1 * d2) (d1 * d2) = Y2 - Y1 := by
      have e1 := c1.hy
      have e2 := c2.hy
      simp only [div_eq, Rat.intCast_mul, Rat.intCast_sub] at e1 e2 ⊢
      grind
    refine ⟨_, rfl, _, _, _, _, rfl, rfl, SqT.of h2, rfl, _, rfl, _, _, _, _, rfl, rfl, SqT.of h1, rfl, _, _, rfl, rfl, cw (wd_ud m1) (wd_ud l3), ?_⟩
    refine ⟨_, rfl, _, _, _, _, rfl, rfl, SqT.of h1, rfl, _, rfl, _, _, _, _, rfl, rfl, SqT.of h2, rfl, _, _, rfl, rfl, cw (wd_ud l1) (wd_ud m3), _, _, rfl, rfl, ?_⟩
    refine ⟨_, rfl, _, _, _, _, rfl, rfl, SqT.of h1, rfl, _, rfl, _, _, _, _, rfl, rfl, SqT.of h2, rfl, _, _, rfl, rfl, cw (wd_ud l3) (wd_ud m3), ?_⟩
    refine ⟨_, _, rfl, Int.mul_ne_zero c1.ne c2.ne, wd_ud2 l3 m3, fun p3 H3 np3 S3 r3 => ?_⟩
    rw [eX] at r3
    replace h1 := S3 _ _ h1
    replace h2 := S3 _ _ h2
    refine ⟨_, rfl, ?_⟩
    refine ⟨_, rfl, _, _, _, _, rfl, rfl, SqT.of h2, rfl, _, rfl, _, _, _, _, rfl, rfl, SqT.of h1, rfl, _, _, rfl, rfl, cw (wd_ud m2) (wd_ud l3), ?_⟩
    refine ⟨_, rfl, _, _, _, _, rfl, rfl, SqT.of h1, rfl, _, rfl, _, _, _, _, rfl, rfl, SqT.of h2, rfl, _, _, rfl, rfl, cw (wd_ud l2) (wd_ud m3), _, _, rfl, rfl, ?_⟩
    refine ⟨_, rfl, _, _, _, _, rfl, rfl, SqT.of h1, rfl, _, rfl, _, _, _, _, rfl, rfl, SqT.of h2, rfl, _, _, rfl, rfl, cw (wd_ud l3) (wd_ud m3), ?_⟩
    refine ⟨_, _, rfl, Int.mul_ne_zero c1.ne c2.ne, wd_ud2 l3 m3, fun p4 H4 np4 S4 r4 => ?_⟩
    rw [eY] at r4
    refine ⟨(by show 2 ≤ sizeLine; decide), fun p5 np5 => ?_⟩
    have S5 := same_new (o := .tup [.ref p3, .ref p4]) np5
    exact q _ _ ((S3.trans S4).trans S5) ⟨p5, p3, p4, rfl, upd_same, (r3.same S4).same S5, r4.same S5⟩
theorem ok__law_cross_of {fd : FuncData} (F : Fun K "_law_cross_of" "_law_cross_of" s__law_cross_of a._law_cross_of fd) (T : Txt K mg a)
    {fd__law_pair : FuncData} (G__law_pair : Fn P w K mg base CX0 2 a._law_pair fd__law_pair ["_law_above", "_law_under"] spPair) (b__law_pair : Binds K fd__law_pair ["_law_above", "_law_under"] []) :
    Fn P w K mg base CX0 3 a._law_cross_of fd ["_law_one", "_law_other"] spCross := by
  refine ok F sc__law_cross_of (fun vs H Q E h => ?len) (fun cdv A outer s H vs Q E hq hr h => ⟨_,
      (pss_cons (ps_set (i := 2) sc__law_cross_of.nd rfl (Or.inl rfl) (pe_tup (pa_cons (pe_op op_mulW (pe_ix ix_tup (pe_ix ix_tup (pv 0) pe_int (fun _ _ => rfl)) pe_int (fun _ _ => rfl)) (pe_ix ix_tup (pe_ix ix_tup (pv 1) pe_int (fun _ _ => rfl)) pe_int (fun _ _ => rfl))) (pa_cons (pe_op op_mulW (pe_ix ix_tup (pe_ix ix_tup (pv 0) pe_int (fun _ _ => rfl)) pe_int (fun _ _ => rfl)) (pe_ix ix_tup (pe_ix ix_tup (pv 1) pe_int (fun _ _ => rfl)) pe_int (fun _ _ => rfl))) pa_nil))))
      (pss_cons (ps_set (i := 3) sc__law_cross_of.nd rfl (Or.inl rfl) (pe_tup (pa_cons (pe_op op_mulW (pe_ix ix_tup (pe_ix ix_tup (pv 0) pe_int (fun _ _ => rfl)) pe_int (fun _ _ => rfl)) (pe_ix ix_tup (pe_ix ix_tup (pv 1) pe_int (fun _ _ => rfl)) pe_int (fun _ _ => rfl))) (pa_cons (pe_op op_mulW (pe_ix ix_tup (pe_ix ix_tup (pv 0) pe_int (fun _ _ => rfl)) pe_int (fun _ _ => rfl)) (pe_ix ix_tup (pe_ix ix_tup (pv 1) pe_int (fun _ _ => rfl)) pe_int (fun _ _ => rfl))) pa_nil))))
      (pss_one (ps_ret (pe_fn G__law_pair hq (hr.mono (by omega)) (by rfl) T.g__law_pair T.k__law_pair b__law_pair .nil pass0 (pa_cons (pe_op op_sub (pe_op op_mulW (pe_ix ix_tup (pv 2) pe_int (fun _ _ => rfl)) (pe_ix ix_tup (pv 3) pe_int (fun _ _ => rfl))) (pe_op op_mulW (pe_ix ix_tup (pv 3) pe_int (fun _ _ => rfl)) (pe_ix ix_tup (pv 2) pe_int (fun _ _ => rfl)))) (pa_cons (pe_op op_mulW (pe_ix ix_tup (pv 2) pe_int (fun _ _ => rfl)) (pe_ix ix_tup (pv 3) pe_int (fun _ _ => rfl))) pa_nil))))))), ?body⟩)
  case len => obtain ⟨v, w, A, B, C, D, rfl, _⟩ := h; rfl
  case body =>
    obtain ⟨v, w, A', B, C, D, rfl, ⟨b1, x1, y1, rfl, h1, ⟨_, e1, k1⟩, ⟨_, e2, k2⟩⟩, ⟨b2, x2, y2, rfl, h2, ⟨_, e3, k3⟩, ⟨_, e4, k4⟩⟩, w1, w2, w3, w4, q⟩ := h
    cases e1
    cases e2
    cases e3
    cases e4
    refine ⟨_, rfl, _, _, _, _, rfl, rfl, SqT.of h1, rfl, _, _, _, _, rfl, rfl, SqT.of k1, rfl, _, rfl, _, _, _, _, rfl, rfl, SqT.of h2, rfl, _, _, _, _, rfl, rfl, SqT.of k4, rfl, _, _, rfl, rfl, cw (wd_ud w1.wn) (wd_ud w4.wn), ?_⟩
    refine ⟨_, rfl, _, _, _, _, rfl, rfl, SqT.of h1, rfl, _, _, _, _, rfl, rfl, SqT.of k1, rfl, _, rfl, _, _, _, _, rfl, rfl, SqT.of h2, rfl, _, _, _, _, rfl, rfl, SqT.of k4, rfl, _, _, rfl, rfl, cw (wd_ud w1.wd) (wd_ud w4.wd), (by show 2 ≤ sizeLine; decide), fun p3 np3 => ?_⟩
    have S3 := same_new (o := .tup [.int (A'.num * D.num), .int ((A'.den : Int) * (D.den : Int))]) np3
    have h3 : upd H p3 (.tup [.int (A'.num * D.num), .int ((A'.den : Int) * (D.den : Int))]) p3 = some (.tup [.int (A'.num * D.num), .int ((A'.den : Int) * (D.den : Int))]) := upd_same
    replace h1 := S3 _ _ h1
    replace h2 := S3 _ _ h2
    replace k2 := S3 _ _ k2
    replace k3 := S3 _ _ k3
    generalize upd H p3 (.tup [.int (A'.num * D.num), .int ((A'.den : Int) * (D.den : Int))]) = H3 at h1 h2 k2 k3 h3 S3 ⊢
    refine ⟨_, rfl, _, _, _, _, rfl, rfl, SqT.of h1, rfl, _, _, _, _, rfl, rfl, SqT.of k2, rfl, _, rfl, _, _, _, _, rfl, rfl, SqT.of h2, rfl, _, _, _, _, rfl, rfl, SqT.of k3, rfl, _, _, rfl, rfl, cw (wd_ud w2.wn) (wd_ud w3.wn), ?_⟩
    refine ⟨_, rfl, _, _, _, _, rfl, rfl, SqT.of h1, rfl, _, _, _, _, rfl, rfl, SqT.of k2, rfl, _, rfl, _, _, _, _, rfl, rfl, SqT.of h2, rfl, _, _, _, _, rfl, rfl, SqT.of k3, rfl, _, _, rfl, rfl, cw (wd_ud w2.wd) (wd_ud w3.wd), (by show 2 ≤ sizeLine; decide), fun p4 np4 => ?_⟩
    have S4 := same_new (o := .tup [.int (B.num * C.num), .int ((B.den : Int) * (C.den : Int))]) np4
    have h4 : upd H3 p4 (.tup [.int (B.num * C.num), .int ((B.den : Int) * (C.den : Int))]) p4 = some (.tup [.int (B.num * C.num), .int ((B.den : Int) * (C.den : Int))]) := upd_same
    replace h3 := S4 _ _ h3
    generalize upd H3 p4 (.tup [.int (B.num * C.num), .int ((B.den : Int) * (C.den : Int))]) = H4 at h3 h4 S4 ⊢
    refine ⟨_, rfl, _, _, _, _, rfl, rfl, SqT.of h3, rfl, _, rfl, _, _, _, _, rfl, rfl, SqT.of h4, rfl, _, _, rfl, rfl, cw (wd_ud2 w1.wn w4.wn) (wd_ud2 w2.wd w3.wd), ?_⟩
    refine ⟨_, rfl, _, _, _, _, rfl, rfl, SqT.of h4, rfl, _, rfl, _, _, _, _, rfl, rfl, SqT.of h3, rfl, _, _, rfl, rfl, cw (wd_ud2 w2.wn w3.wn) (wd_ud2 w1.wd w4.wd), _, _, rfl, rfl, ?_⟩
    refine ⟨_, rfl, _, _, _, _, rfl, rfl, SqT.of h3, rfl, _, rfl, _, _, _, _, rfl, rfl, SqT.of h4, rfl, _, _, rfl, rfl, cw (wd_ud2 w1.wd w4.wd) (wd_ud2 w2.wd w3.wd), ?_⟩
    refine ⟨_, _, rfl, Int.mul_ne_zero (prod_ne _ _) (prod_ne _ _), ?_, fun p5 H5 np5 S5 r5 => ?_⟩
    · show (_ : Int).natAbs < 2 ^ 8000
      rw [show 8000 = 4000 + 4000 by rfl]
      exact wide_lt (wd_mul w1.wd w4.wd) (wd_mul w2.wd w3.wd)
    have e : Rat.divInt (A'.num * D.num * ((B.den : Int) * (C.den : Int)) - B.num * C.num * ((A'.den : Int) * (D.den : Int))) ((A'.den : Int) * (D.den : Int) * ((B.den : Int) * (C.den : Int))) = A' * D - B * C := by
      simp only [div_eq, Rat.intCast_mul, Rat.intCast_sub]
      rw [cross_gen (qd_ne A') (qd_ne B) (qd_ne C) (qd_ne D), ← q_eq A', ← q_eq B, ← q_eq C, ← q_eq D]
    rw [e] at r5
    exact q _ _ ((S3.trans S4).trans S5) r5
theorem ok__law_along {fd : FuncData} (F : Fun K "_law_along" "_law_along" s__law_along a._law_along fd) (T : Txt K mg a)
    {fd__law_spot : FuncData} (G__law_spot : Fn P w K mg base CX0 2 a._law_spot fd__law_spot ["_law_x", "_law_y", "_law_d"] spSpot) (b__law_spot : Binds K fd__law_spot ["_law_x", "_law_y", "_law_d"] [])
    {fd__law_pair : FuncData} (G__law_pair : Fn P w K mg base CX0 2 a._law_pair fd__law_pair ["_law_above", "_law_under"] spPair) (b__law_pair : Binds K fd__law_pair ["_law_above", "_law_under"] [])
    {fd__law_difference : FuncData} (G__law_difference : Fn P w K mg base CX0 3 a._law_difference fd__law_difference ["_law_one", "_law_other"] spDif) (b__law_difference : Binds K fd__law_difference ["_law_one", "_law_other"] []) :
    Fn P w K mg base CX0 4 a._law_along fd ["_law_one", "_law_other", "_law_share"] spAlong := by
  refine ok F sc__law_along (fun vs H Q E h => ?len) (fun cdv A outer s H vs Q E hq hr h => ⟨_,
      (pss_cons (ps_asg (pe_tup (pa_cons (pe_fn G__law_difference hq (hr.mono (by omega)) (by rfl) T.g__law_difference T.k__law_difference b__law_difference .nil pass0 (pa_cons (pv 0) (pa_cons (pv 1) pa_nil))) (pa_cons (pv 2) pa_nil))) (pg_tup rfl (pgs_cons (pg_name (i := 3) sc__law_along.nd rfl (Or.inl rfl)) (pgs_cons (pg_tup rfl (pgs_cons (pg_name (i := 4) sc__law_along.nd rfl (Or.inl rfl)) (pgs_cons (pg_name (i := 5) sc__law_along.nd rfl (Or.inl rfl)) pgs_nil))) pgs_nil))))
      (pss_cons (ps_set (i := 6) sc__law_along.nd rfl (Or.inl rfl) (pe_fn G__law_pair hq (hr.mono (by omega)) (by rfl) T.g__law_pair T.k__law_pair b__law_pair .nil pass0 (pa_cons (pe_op op_add (pe_op op_mulW (pe_op op_mulW (pe_ix ix_tup (pv 0) pe_int (fun _ _ => rfl)) (pe_ix ix_tup (pe_ix ix_tup (pv 3) pe_int (fun _ _ => rfl)) pe_int (fun _ _ => rfl))) (pv 5)) (pe_op op_mulW (pe_op op_mulW (pe_ix ix_tup (pe_ix ix_tup (pv 3) pe_int (fun _ _ => rfl)) pe_int (fun _ _ => rfl)) (pv 4)) (pe_ix ix_tup (pv 0) pe_int (fun _ _ => rfl)))) (pa_cons (pe_op op_mulW (pe_op op_mulW (pe_ix ix_tup (pv 0) pe_int (fun _ _ => rfl)) (pe_ix ix_tup (pe_ix ix_tup (pv 3) pe_int (fun _ _ => rfl)) pe_int (fun _ _ => rfl))) (pv 5)) pa_nil))))
      (pss_cons (ps_set (i := 7) sc__law_along.nd rfl (Or.inl rfl) (pe_fn G__law_pair hq (hr.mono (by omega)) (by rfl) T.g__law_pair T.k__law_pair b__law_pair .nil pass0 (pa_cons (pe_op op_add (pe_op op_mulW (pe_op op_mulW (pe_ix ix_tup (pv 0) pe_int (fun _ _ => rfl)) (pe_ix ix_tup (pe_ix ix_tup (pv 3) pe_int (fun _ _ => rfl)) pe_int (fun _ _ => rfl))) (pv 5)) (pe_op op_mulW (pe_op op_mulW (pe_ix ix_tup (pe_ix ix_tup (pv 3) pe_int (fun _ _ => rfl)) pe_int (fun _ _ => rfl)) (pv 4)) (pe_ix ix_tup (pv 0) pe_int (fun _ _ => rfl)))) (pa_cons (pe_op op_mulW (pe_op op_mulW (pe_ix ix_tup (pv 0) pe_int (fun _ _ => rfl)) (pe_ix ix_tup (pe_ix ix_tup (pv 3) pe_int (fun _ _ => rfl)) pe_int (fun _ _ => rfl))) (pv 5)) pa_nil))))
      (pss_one (ps_ret (pe_fn G__law_spot hq (hr.mono (by omega)) (by rfl) T.g__law_spot T.k__law_spot b__law_spot .nil pass0 (pa_cons (pe_op op_mulW (pe_ix ix_tup (pv 6) pe_int (fun _ _ => rfl)) (pe_ix ix_tup (pv 7) pe_int (fun _ _ => rfl))) (pa_cons (pe_op op_mulW (pe_ix ix_tup (pv 7) pe_int (fun _ _ => rfl)) (pe_ix ix_tup (pv 6) pe_int (fun _ _ => rfl))) (pa_cons (pe_op op_mulW (pe_ix ix_tup (pv 6) pe_int (fun _ _ => rfl)) (pe_ix ix_tup (pv 7) pe_int (fun _ _ => rfl))) pa_nil))))))))), ?body⟩)
  case len => obtain ⟨v, w, sh, X1, Y1, X2, Y2, s, r, rfl, _⟩ := h; rfl
  case body =>
    obtain ⟨v, w, sh, X1, Y1, X2, Y2, s, r, rfl, hv, hw, hs, r0, ws, wr, w1, w2, w3, w4, w5, w6, w7, w8, q⟩ := h
    refine ⟨_, rfl, _, rfl, _, _, _, _, _, _, rfl, hv, hw, w1, w2, w3, w4, fun z H1 S1 way => ?_⟩
    obtain ⟨b1, x1, y1, d1, rfl, h1, c1⟩ := hv.same S1
    obtain ⟨b2, x2, y2, d2, rfl, h2, c2⟩ := hw.same S1
    obtain ⟨b3, rfl, h3⟩ := hs.same S1
    obtain ⟨l1, l2, l3⟩ := can_wd c1 w1 w2
    obtain ⟨bw, wx, wy, rfl, hw, ⟨_, ex, kx⟩, ⟨_, ey, ky⟩⟩ := way
    cases ex
    cases ey
    refine ⟨_, rfl, (by show 2 ≤ sizeLine; decide), fun t1 f1 => ?_⟩
    have S2 := same_new (o := .tup [.ref bw, .ref b3]) f1
    refine ⟨t1, _, rfl, SqT.of upd_same, rfl, _, _, rfl, _, _, rfl, b3, _, rfl, SqT.of (S2 _ _ h3), rfl, _, _, rfl, _, _, rfl, rfl, rfl, ?_⟩
    replace h1 := S2 _ _ h1
    replace hw := S2 _ _ hw
    replace kx := S2 _ _ kx
    replace ky := S2 _ _ ky
    clear h2 h3
    generalize upd H1 t1 (.tup [.ref bw, .ref b3]) = H2 at h1 hw kx ky S2 ⊢
    refine ⟨_, rfl, _, _, _, _, rfl, rfl, SqT.of h1, rfl, _, rfl, _, _, _, _, rfl, rfl, SqT.of hw, rfl, _, _, _, _, rfl, rfl, SqT.of kx, rfl, _, _, rfl, rfl, cw (wd_ud l1) (wd_ud w5.wd), _, rfl, _, _, rfl, rfl, cw (wd_ud2 l1 w5.wd) (wd_ud wr), ?_⟩
    refine ⟨_, rfl, _, _, _, _, rfl, rfl, SqT.of hw, rfl, _, _, _, _, rfl, rfl, SqT.of kx, rfl, _, rfl, _, _, rfl, rfl, cw (wd_ud w5.wn) (wd_ud ws), _, rfl, _, _, _, _, rfl, rfl, SqT.of h1, rfl, _, _, rfl, rfl, cw (wd_ud2 w5.wn ws) (wd_ud l3), _, _, rfl, rfl, ?_⟩
    refine ⟨_, rfl, _, _, _, _, rfl, rfl, SqT.of h1, rfl, _, rfl, _, _, _, _, rfl, rfl, SqT.of hw, rfl, _, _, _, _, rfl, rfl, SqT.of kx, rfl, _, _, rfl, rfl, cw (wd_ud l3) (wd_ud w5.wd), _, rfl, _, _, rfl, rfl, cw (wd_ud2 l3 w5.wd) (wd_ud wr), ?_⟩
    refine ⟨_, _, rfl, Int.mul_ne_zero (Int.mul_ne_zero c1.ne (rq_ne _)) r0, wd_ud3 l3 w5.wd wr, fun p3 H3 np3 S3 r3 => ?_⟩
    have eX : Rat.divInt (x1 * ((X2 - X1).den : Int) * r + (X2 - X1).num * s * d1) (d1 * ((X2 - X1).den : Int) * r) = X1 + (X2 - X1) * Rat.divInt s r := by
      simp only [div_eq, Rat.intCast_mul, Rat.intCast_add]
      rw [along_gen (i_ne c1.ne) (qd_ne _) (i_ne r0), ← q_eq, ← div_eq, ← div_eq, ← c1.hx]
    have eY : Rat.divInt (y1 * ((Y2 - Y1).den : Int) * r + (Y2 - Y1).num * s * d1) (d1 * ((Y2 - Y1).den : Int) * r) = Y1 + (Y2 - Y1) * Rat.divInt s r := by
      simp only [div_eq, Rat.intCast_mul, Rat.intCast_add]
      rw [along_gen (i_ne c1.ne) (qd_ne _) (i_ne r0), ← q_eq, ← div_eq, ← div_eq, ← c1.hy]
    rw [eX] at r3
    replace h1 := S3 _ _ h1
    replace hw := S3 _ _ hw
    replace ky := S3 _ _ ky
    refine ⟨_, rfl, _, _, _, _, rfl, rfl, SqT.of h1, rfl, _, rfl, _, _, _, _, rfl, rfl, SqT.of hw, rfl, _, _, _, _, rfl, rfl, SqT.of ky, rfl, _, _, rfl, rfl, cw (wd_ud l2) (wd_ud w6.wd), _, rfl, _, _, rfl, rfl, cw (wd_ud2 l2 w6.wd) (wd_ud wr), ?_⟩
    refine ⟨_, rfl, _, _, _, _, rfl, rfl, SqT.of hw, rfl, _, _, _, _, rfl, rfl, SqT.of ky, rfl, _, rfl, _, _, rfl, rfl, cw (wd_ud w6.wn) (wd_ud ws), _, rfl, _, _, _, _, rfl, rfl, SqT.of h1, rfl, _, _, rfl, rfl, cw (wd_ud2 w6.wn ws) (wd_ud l3), _, _, rfl, rfl, ?_⟩
    refine ⟨_, rfl, _, _, _, _, rfl, rfl, SqT.of h1, rfl, _, rfl, _, _, _, _, rfl, rfl, SqT.of hw, rfl, _, _, _, _, rfl, rfl, SqT.of ky, rfl, _, _, rfl, rfl, cw (wd_ud l3) (wd_ud w6.wd), _, rfl, _, _, rfl, rfl, cw (wd_ud2 l3 w6.wd) (wd_ud wr), ?_⟩
    refine ⟨_, _, rfl, Int.mul_ne_zero (Int.mul_ne_zero c1.ne (rq_ne _)) r0, wd_ud3 l3 w6.wd wr, fun p4 H4 np4 S4 r4 => ?_⟩
    rw [eY] at r4
    generalize X1 + (X2 - X1) * Rat.divInt s r = X' at *
    generalize Y1 + (Y2 - Y1) * Rat.divInt s r = Y' at *
    obtain ⟨_, e3, k3⟩ := r3.same S4
    cases e3
    obtain ⟨_, e4, k4⟩ := r4
    cases e4
    refine ⟨_, rfl, _, _, _, _, rfl, rfl, SqT.of k3, rfl, _, rfl, _, _, _, _, rfl, rfl, SqT.of k4, rfl, _, _, rfl, rfl, cw (wd_ud w7.wn) (wd_ud w8.wd), ?_⟩
    refine ⟨_, rfl, _, _, _, _, rfl, rfl, SqT.of k4, rfl, _, rfl, _, _, _, _, rfl, rfl, SqT.of k3, rfl, _, _, rfl, rfl, cw (wd_ud w8.wn) (wd_ud w7.wd), ?_⟩
    refine ⟨_, rfl, _, _, _, _, rfl, rfl, SqT.of k3, rfl, _, rfl, _, _, _, _, rfl, rfl, SqT.of k4, rfl, _, _, rfl, rfl, cw (wd_ud w7.wd) (wd_ud w8.wd), ?_⟩
    refine ⟨_, _, _, rfl, prod_ne X' Y', wd_ud2 w7.wd w8.wd, fun p H5 np S5 r5 => ?_⟩
    rw [crossX, crossY] at r5
    exact q _ H5 ((((S1.trans S2).trans S3).trans S4).trans S5) r5
theorem ok__law_meets {fd : FuncData} (F : Fun K "_law_meets" "_law_meets" s__law_meets a._law_meets fd) (T : Txt K mg a)
    {fd__law_along : FuncData} (G__law_along : Fn P w K mg base CX0 4 a._law_along fd__law_along ["_law_one", "_law_other", "_law_share"] spAlong) (b__law_along : Binds K fd__law_along ["_law_one", "_law_other", "_law_share"] [])
    {fd__law_pair : FuncData} (G__law_pair : Fn P w K mg base CX0 2 a._law_pair fd__law_pair ["_law_above", "_law_under"] spPair) (b__law_pair : Binds K fd__law_pair ["_law_above", "_law_under"] [])
    {fd__law_cross_of : FuncData} (G__law_cross_of : Fn P w K mg base CX0 3 a._law_cross_of fd__law_cross_of ["_law_one", "_law_other"] spCross) (b__law_cross_of : Binds K fd__law_cross_of ["_law_one", "_law_other"] [])
    {fd__law_difference : FuncData} (G__law_difference : Fn P w K mg base CX0 3 a._law_difference fd__law_difference ["_law_one", "_law_other"] spDif) (b__law_difference : Binds K fd__law_difference ["_law_one", "_law_other"] []) :
    Fn P w K mg base CX0 5 a._law_meets fd ["_law_one", "_law_other", "_law_third", "_law_fourth"] spMeets := by
  refine ok F sc__law_meets (fun vs H Q E h => ?len) (fun cdv A outer s H vs Q E hq hr h => ⟨_,
      (pss_cons (ps_par3 (i := 4) (j := 5) (l := 6) (by rfl) sc__law_meets.nd rfl rfl rfl (by decide) (by decide) (by decide) rfl rfl rfl (pa_cons (pe_fn G__law_difference hq (hr.mono (by omega)) (by rfl) T.g__law_difference T.k__law_difference b__law_difference .nil pass0 (pa_cons (pv 0) (pa_cons (pv 1) pa_nil))) (pa_cons (pe_fn G__law_difference hq (hr.mono (by omega)) (by rfl) T.g__law_difference T.k__law_difference b__law_difference .nil pass0 (pa_cons (pv 2) (pa_cons (pv 3) pa_nil))) (pa_cons (pe_fn G__law_difference hq (hr.mono (by omega)) (by rfl) T.g__law_difference T.k__law_difference b__law_difference .nil pass0 (pa_cons (pv 0) (pa_cons (pv 2) pa_nil))) pa_nil))) (by rfl))
      (pss_cons (ps_par (i := 7) (j := 8) (by rfl) sc__law_meets.nd rfl rfl (by decide) rfl rfl (pa_cons (pe_fn G__law_cross_of hq (hr.mono (by omega)) (by rfl) T.g__law_cross_of T.k__law_cross_of b__law_cross_of .nil pass0 (pa_cons (pv 4) (pa_cons (pv 5) pa_nil))) (pa_cons (pe_fn G__law_cross_of hq (hr.mono (by omega)) (by rfl) T.g__law_cross_of T.k__law_cross_of b__law_cross_of .nil pass0 (pa_cons (pv 6) (pa_cons (pv 5) pa_nil))) pa_nil)) (by rfl))
      (pss_cons (ps_if (pt_cmpR op_eq (pe_ix ix_tup (pv 7) pe_int (fun _ _ => rfl)) pe_int (nomark _)) (pss_one (ps_ret pe_non)) pss_nil)
      (pss_one (ps_ret (pe_fn G__law_along hq (hr.mono (by omega)) (by rfl) T.g__law_along T.k__law_along b__law_along .nil pass0 (pa_cons (pv 0) (pa_cons (pv 1) (pa_cons (pe_fn G__law_pair hq (hr.mono (by omega)) (by rfl) T.g__law_pair T.k__law_pair b__law_pair .nil pass0 (pa_cons (pe_op op_mulW (pe_ix ix_tup (pv 8) pe_int (fun _ _ => rfl)) (pe_ix ix_tup (pv 7) pe_int (fun _ _ => rfl))) (pa_cons (pe_op op_mulW (pe_ix ix_tup (pv 8) pe_int (fun _ _ => rfl)) (pe_ix ix_tup (pv 7) pe_int (fun _ _ => rfl))) pa_nil))) pa_nil))))))))), ?body⟩)
  case len => obtain ⟨v1, v2, v3, v4, X1, Y1, X2, Y2, X3, Y3, X4, Y4, B, S, rfl, _⟩ := h; rfl
  case body =>
    obtain ⟨v1, v2, v3, v4, X1, Y1, X2, Y2, X3, Y3, X4, Y4, B, S, rfl, h1, h2, h3, h4, eB, eS, W, q1, q2⟩ := h
    refine ⟨_, rfl, _, rfl, _, _, _, _, _, _, rfl, h1, h2, W.a1, W.b1, W.a2, W.b2, fun z1 H1 S1 g1 => ?_⟩
    refine ⟨_, rfl, _, rfl, _, _, _, _, _, _, rfl, h3.same S1, h4.same S1, W.a3, W.b3, W.a4, W.b4, fun z2 H2 S2 g2 => ?_⟩
    refine ⟨_, rfl, _, rfl, _, _, _, _, _, _, rfl, (h1.same S1).same S2, (h3.same S1).same S2, W.a1, W.b1, W.a3, W.b3, fun z3 H3 S3 g3 => ?_⟩
    have Sa := (S1.trans S2).trans S3
    refine ⟨_, _, _, rfl, ?_⟩
    refine ⟨_, rfl, _, rfl, _, _, _, _, _, _, rfl, (g1.same S2).same S3, g2.same S3, W.wx, W.wy, W.ix, W.iy, fun z4 H4 S4 r4 => ?_⟩
    refine ⟨_, rfl, _, rfl, _, _, _, _, _, _, rfl, g3.same S4, (g2.same S3).same S4, W.ox, W.oy, W.ix, W.iy, fun z5 H5 S5 r5 => ?_⟩
    have Sb := (Sa.trans S4).trans S5
    replace r4 := r4.same S5
    rw [show (X2 - X1) * (Y4 - Y3) - (Y2 - Y1) * (X4 - X3) = B from eB.symm] at r4
    rw [show (X3 - X1) * (Y4 - Y3) - (Y3 - Y1) * (X4 - X3) = S from eS.symm] at r5
    obtain ⟨b4, rfl, k4⟩ := r4
    obtain ⟨b5, rfl, k5⟩ := r5
    refine ⟨_, _, rfl, ?_⟩
    refine ⟨_, rfl, _, _, _, _, rfl, rfl, SqT.of k4, rfl, rfl, _, rfl, ite2 (fun c => ?_) (fun c => ?_)⟩
    · have c0 : B = 0 := num_zero.mp (by
        have z := of_decide_eq_true c
        injection z)
      exact q1 c0 _ Sb
    · have c0 : B ≠ 0 := fun z => c (decide_eq_true (by rw [z]; rfl))
      have wsb := W.sb c0
      refine ⟨_, rfl, _, rfl, _, rfl, _, _, _, _, rfl, rfl, SqT.of k5, rfl, _, rfl, _, _, _, _, rfl, rfl, SqT.of k4, rfl, _, _, rfl, rfl, cw (wd_ud W.s.wn) (wd_ud W.b.wd), ?_⟩
      refine ⟨_, rfl, _, _, _, _, rfl, rfl, SqT.of k5, rfl, _, rfl, _, _, _, _, rfl, rfl, SqT.of k4, rfl, _, _, rfl, rfl, cw (wd_ud W.s.wd) (wd_ud W.b.wn), ?_⟩
      refine ⟨_, _, rfl, Int.mul_ne_zero (rq_ne _) (num_ne c0), wd_ud2 W.s.wd W.b.wn, fun p6 H6 np6 S6 r6 => ?_⟩
      rw [q_div _ _ c0] at r6
      have eD : Rat.divInt (S / B).num ((S / B).den : Int) = S / B := Rat.num_divInt_den _
      have Sc := Sb.trans S6
      refine ⟨_, _, _, X1, Y1, X2, Y2, _, _, rfl, h1.same Sc, h2.same Sc, r6, rq_ne _, wsb.wn, wsb.wd, W.a1, W.b1, W.a2, W.b2, W.wx, W.wy, ?_, ?_, fun z7 H7 S7 r7 => ?_⟩
      · rw [eD]
        exact W.rx c0
      · rw [eD]
        exact W.ry c0
      · rw [eD] at r7
        exact q2 c0 z7 H7 (Sc.trans S7) r7
theorem ok__law_beside {fd : FuncData} (F : Fun K "_law_beside" "_law_beside" s__law_beside a._law_beside fd) (T : Txt K mg a)
    {fd__law_spot : FuncData} (G__law_spot : Fn P w K mg base CX0 2 a._law_spot fd__law_spot ["_law_x", "_law_y", "_law_d"] spSpot) (b__law_spot : Binds K fd__law_spot ["_law_x", "_law_y", "_law_d"] []) :
    Fn P w K mg base CX0 3 a._law_beside fd ["_law_one", "_law_other", "_law_third"] spBeside := by
  refine ok F sc__law_beside (fun vs H Q E h => ?len) (fun cdv A outer s H vs Q E hq hr h => ⟨_,
      (pss_cons (ps_set (i := 3) sc__law_beside.nd rfl (Or.inl rfl) (pe_op op_mulW (pe_ix ix_tup (pv 0) pe_int (fun _ _ => rfl)) (pe_ix ix_tup (pv 1) pe_int (fun _ _ => rfl))))
      (pss_cons (ps_set (i := 4) sc__law_beside.nd rfl (Or.inl rfl) (pe_op op_add (pe_op op_mulW (pe_ix ix_tup (pv 2) pe_int (fun _ _ => rfl)) (pv 3)) (pe_op op_mulW (pe_op op_sub (pe_op op_mulW (pe_ix ix_tup (pv 1) pe_int (fun _ _ => rfl)) (pe_ix ix_tup (pv 0) pe_int (fun _ _ => rfl))) (pe_op op_mulW (pe_ix ix_tup (pv 0) pe_int (fun _ _ => rfl)) (pe_ix ix_tup (pv 1) pe_int (fun _ _ => rfl)))) (pe_ix ix_tup (pv 2) pe_int (fun _ _ => rfl)))))
      (pss_cons (ps_set (i := 5) sc__law_beside.nd rfl (Or.inl rfl) (pe_op op_add (pe_op op_mulW (pe_ix ix_tup (pv 2) pe_int (fun _ _ => rfl)) (pv 3)) (pe_op op_mulW (pe_op op_sub (pe_op op_mulW (pe_ix ix_tup (pv 1) pe_int (fun _ _ => rfl)) (pe_ix ix_tup (pv 0) pe_int (fun _ _ => rfl))) (pe_op op_mulW (pe_ix ix_tup (pv 0) pe_int (fun _ _ => rfl)) (pe_ix ix_tup (pv 1) pe_int (fun _ _ => rfl)))) (pe_ix ix_tup (pv 2) pe_int (fun _ _ => rfl)))))
      (pss_one (ps_ret (pe_fn G__law_spot hq (hr.mono (by omega)) (by rfl) T.g__law_spot T.k__law_spot b__law_spot .nil pass0 (pa_cons (pv 4) (pa_cons (pv 5) (pa_cons (pe_op op_mulW (pv 3) (pe_ix ix_tup (pv 2) pe_int (fun _ _ => rfl))) pa_nil))))))))), ?body⟩)
  case len => obtain ⟨v1, v2, v3, X1, Y1, X2, Y2, X3, Y3, rfl, _⟩ := h; rfl
  case body =>
    obtain ⟨v1, v2, v3, X1, Y1, X2, Y2, X3, Y3, rfl, ⟨b1, x1, y1, d1, rfl, h1, c1⟩, ⟨b2, x2, y2, d2, rfl, h2, c2⟩, ⟨b3, x3, y3, d3, rfl, h3, c3⟩, w1, w2, w3, w4, w5, w6, q⟩ := h
    obtain ⟨l1, l2, l3⟩ := can_wd c1 w1 w2
    obtain ⟨m1, m2, m3⟩ := can_wd c2 w3 w4
    obtain ⟨k1, k2, k3⟩ := can_wd c3 w5 w6
    have un : ∀ (i j : Int), Wd i → Wd j → ∀ (i' j' : Int), Wd i' → Wd j' → Ud (i * j - i' * j') := fun i j a b i' j' a' b' => by
      have h1 := wd_mul a b
      have h2 := wd_mul a' b'
      have h3 : (i * j - i' * j').natAbs ≤ (i * j).natAbs + (i' * j').natAbs := by omega
      refine Nat.lt_of_lt_of_le (m := 2 ^ 4001) ?_ (Nat.pow_le_pow_right (by decide) (by decide))
      rw [show 4001 = 4000 + 1 by rfl, Nat.pow_succ]
      omega
    refine ⟨_, rfl, _, _, _, _, rfl, rfl, SqT.of h1, rfl, _, rfl, _, _, _, _, rfl, rfl, SqT.of h2, rfl, _, _, rfl, rfl, cw (wd_ud l3) (wd_ud m3), ?_⟩
    refine ⟨_, rfl, _, _, _, _, rfl, rfl, SqT.of h3, rfl, _, rfl, _, _, rfl, rfl, cw (wd_ud k1) (wd_ud2 l3 m3), ?_⟩
    refine ⟨_, rfl, _, _, _, _, rfl, rfl, SqT.of h2, rfl, _, rfl, _, _, _, _, rfl, rfl, SqT.of h1, rfl, _, _, rfl, rfl, cw (wd_ud m1) (wd_ud l3), ?_⟩
    refine ⟨_, rfl, _, _, _, _, rfl, rfl, SqT.of h1, rfl, _, rfl, _, _, _, _, rfl, rfl, SqT.of h2, rfl, _, _, rfl, rfl, cw (wd_ud l1) (wd_ud m3), _, _, rfl, rfl, _, rfl, _, _, _, _, rfl, rfl, SqT.of h3, rfl, _, _, rfl, rfl, cw (un _ _ m1 l3 _ _ l1 m3) (wd_ud k3), _, _, rfl, rfl, ?_⟩
    refine ⟨_, rfl, _, _, _, _, rfl, rfl, SqT.of h3, rfl, _, rfl, _, _, rfl, rfl, cw (wd_ud k2) (wd_ud2 l3 m3), ?_⟩
    refine ⟨_, rfl, _, _, _, _, rfl, rfl, SqT.of h2, rfl, _, rfl, _, _, _, _, rfl, rfl, SqT.of h1, rfl, _, _, rfl, rfl, cw (wd_ud m2) (wd_ud l3), ?_⟩
    refine ⟨_, rfl, _, _, _, _, rfl, rfl, SqT.of h1, rfl, _, rfl, _, _, _, _, rfl, rfl, SqT.of h2, rfl, _, _, rfl, rfl, cw (wd_ud l2) (wd_ud m3), _, _, rfl, rfl, _, rfl, _, _, _, _, rfl, rfl, SqT.of h3, rfl, _, _, rfl, rfl, cw (un _ _ m2 l3 _ _ l2 m3) (wd_ud k3), _, _, rfl, rfl, ?_⟩
    refine ⟨_, rfl, _, rfl, _, rfl, _, rfl, _, _, _, _, rfl, rfl, SqT.of h3, rfl, _, _, rfl, rfl, cw (wd_ud2 l3 m3) (wd_ud k3), ?_⟩
    refine ⟨_, _, _, rfl, Int.mul_ne_zero (Int.mul_ne_zero c1.ne c2.ne) c3.ne, wd_ud3 l3 m3 k3, fun p H5 np S5 r5 => ?_⟩
    have eX : Rat.divInt (x3 * (d1 * d2) + (x2 * d1 - x1 * d2) * d3) (d1 * d2 * d3) = X3 + (X2 - X1) := by
      simp only [div_eq, Rat.intCast_mul, Rat.intCast_add, Rat.intCast_sub]
      rw [beside_gen (i_ne c1.ne) (i_ne c2.ne) (i_ne c3.ne), ← div_eq, ← div_eq, ← div_eq, ← c1.hx, ← c2.hx, ← c3.hx]
    have eY : Rat.divInt (y3 * (d1 * d2) + (y2 * d1 - y1 * d2) * d3) (d1 * d2 * d3) = Y3 + (Y2 - Y1) := by
      simp only [div_eq, Rat.intCast_mul, Rat.intCast_add, Rat.intCast_sub]
      rw [beside_gen (i_ne c1.ne) (i_ne c2.ne) (i_ne c3.ne), ← div_eq, ← div_eq, ← div_eq, ← c1.hy, ← c2.hy, ← c3.hy]
    rw [eX, eY] at r5
    exact q _ H5 S5 r5
end
end My

namespace My
open PySem PySem.Spec PyProof.Rows L2 G LamX NdefX
abbrev s__law_told : Stmt := topS 30
theorem sc__law_told : FnScope ["_law_ask", "_law_caught", "_law_back", "_law_error"] ["_law_ask"] (defScope s__law_told) := ⟨rfl, rfl, rfl, by decide +kernel, rfl, by decide +kernel, by decide +kernel⟩

/-- what the law's asking makes of the lambda's reading: the error, or what came back -/
def TTold (K : PySem.W.Frag) (CS : Addr) : (XK → Hp → VK → Prop) → Hp → VK → Prop := fun tl H Q => ∀ H1, Same H H1 → ∀ (E' : XK) (Q' : VK),
  (∀ C d H', PySem.W.exmOne K (.ref C) (.ref CS) = some true → (∀ e, H' e = none → ∀ T, upd H' e (exc e C d) T = none → Q (.ref T) (upd (upd H' e (exc e C d)) T (.tup [.ref e, .non]))) → E' (.ref C) d H') →
  (∀ v H', (∀ T, H' T = none → Q (.ref T) (upd H' T (.tup [.non, v]))) → Q' v H') → tl E' H1 Q'
def spTold (K : PySem.W.Frag) (CS : Addr) : (XK → Hp → VK → Prop) → Sp := fun tl vs H Q _ => ∃ f, vs = [.ref f] ∧ TTold K CS tl H Q
/-- the lambda raises the class B, its error keeps v -/
def Raises (B : Addr) (tl : XK → Hp → VK → Prop) (H : Hp) (v : Hp → V → Prop) : Prop := ∀ H1, Same H H1 → ∀ (E' : XK) (Q' : VK), (∀ dd wv H', Same H1 H' → H' dd = some (.xd [("value", wv)]) → v H' wv → E' (.ref B) (some dd) H') → tl E' H1 Q'
section
variable {P : Program} {w : World} {K : PySem.W.Frag} {mg : Str → Option Value} {base : Heap} {a : Ad}
theorem ok_told {fd : FuncData} (F : Fun K "_law_told" "_law_told" s__law_told a._law_told fd) (T : Txt K mg a) : FnC P w K mg base CX0 1 a._law_told fd ["_law_ask"] (spTold K a.AboutError) := by
  obtain ⟨_, _, _, _, _, _, cdv, _, _, rfl, lk, hcd⟩ := F.ex
  refine fnC_of (d := 0) lk hcd sc__law_told (fun tl vs H Q E h => ?_) (fun A outer s H vs Q E f F fr ws k tl hq hr hh hf hc C nf L h => ?_)
  · obtain ⟨f, rfl, _⟩ := h
    rfl
  · suffices z : ∃ t, PSs (cxOf CX0 P w K mg base ["_law_ask", "_law_caught", "_law_back", "_law_error"] "_law_told" (defScope s__law_told) a._law_told cdv A outer s H E).nox (defBody s__law_told) t ∧ t { nx := fun _ H' => Q .non H', rt := Q } (L2.start ["_law_ask", "_law_caught", "_law_back", "_law_error"] vs) H by
      obtain ⟨t, z1, z2⟩ := z
      exact ⟨t, z1.nox, z2⟩
    obtain ⟨f', rfl, h⟩ := h
    obtain rfl : f' = f := by simpa using hh
    refine ⟨_, pss_cons (ps_asg (pe_tup (pa_cons pe_non (pa_cons pe_non pa_nil))) (pg_tup rfl (pgs_cons (pg_name (i := 1) sc__law_told.nd rfl (Or.inl rfl)) (pgs_cons (pg_name (i := 2) sc__law_told.nd rfl (Or.inl rfl)) pgs_nil))))
      (pss_cons (ps_try_asT (i := 3) (c := .ref a.AboutError) rfl rfl rfl sc__law_told.nd rfl rfl ⟨rfl, by decide, .inl T.g_AboutError⟩
        (fun W pn xe tk _ => pss_one (ps_set (i := 2) sc__law_told.nd rfl (.inl rfl) (pe_callL (i := 0) tk hr C nf rfl L rfl (.inl rfl))))
        (fun e oe cls d pn _ _ => pss_one (ps_set (i := 1) sc__law_told.nd rfl (.inl rfl) (pv 3))))
      (pss_one (ps_ret (pe_tup (pa_cons (pv 1) (pa_cons (pv 2) pa_nil)))))), ?_⟩
    refine ⟨(by show 2 ≤ sizeLine; decide), fun t1 h1 => ⟨t1, _, rfl, SqT.of upd_same, rfl, ?_⟩⟩
    refine ⟨_, _, rfl, _, _, rfl, rfl, rfl, same_new h1 _ _ hf, same_new h1 _ _ hc, ?_⟩
    refine h _ (same_new h1) _ _ (fun C d H' x q => ⟨x, C, rfl, fun e he => ?_⟩) (fun v H' q => ?_)
    · refine ⟨_, rfl, _, rfl, _, rfl, (by show 2 ≤ sizeLine; decide), fun T hT => ?_⟩
      exact q e he T hT
    · refine ⟨_, rfl, _, rfl, (by show 2 ≤ sizeLine; decide), fun T hT => ?_⟩
      exact q T hT
end
end My

namespace My
open PySem PySem.Spec PyProof.Rows L2 G LamX

/-! ### all but the pot and the tables of code objects stays -/
def IsTb (H : Hp) (b : Addr) : Prop := ∃ ps, H b = some (.tbl ps)
noncomputable abbrev vw (p : Addr) (H : Hp) : Hp := mask (fun b => b = p ∨ IsTb H b) H
theorem vw_le (p : Addr) (H : Hp) : Same (vw p H) H := mask_le _ _
theorem vw_at {p b : Addr} {H : Hp} {o : HO} (h : H b = some o) (hb : b ≠ p) (ho : ∀ ps, o ≠ .tbl ps) : vw p H b = some o := by
  refine (mask_out ?_).trans h
  rintro (z | ⟨ps, z⟩)
  · exact hb z
  · rw [h] at z
    exact ho ps (Option.some.inj z)
theorem vw_some {p b : Addr} {H : Hp} {o : HO} (h : vw p H b = some o) : b ≠ p ∧ H b = some o ∧ ∀ ps, o ≠ .tbl ps := by
  obtain ⟨n, e⟩ := mask_some h
  exact ⟨fun z => n (.inl z), e, fun ps z => n (.inr ⟨ps, by rw [e, z]⟩)⟩
def Kp (p : Addr) (H H' : Hp) : Prop := Same (vw p H) (vw p H')
theorem Kp.refl (p : Addr) (H : Hp) : Kp p H H := Same.refl _
theorem Kp.trans {p : Addr} {H H1 H2 : Hp} (a : Kp p H H1) (b : Kp p H1 H2) : Kp p H H2 := Same.trans a b
theorem Kp.same {p : Addr} {H H' : Hp} (S : Same H H') : Kp p H H' := fun b o e => by
  obtain ⟨n, e, t⟩ := vw_some e
  exact vw_at (S _ _ e) n t
theorem Kp.ext {p : Addr} {H H' : Hp} (S : ExtN H H') : Kp p H H' := fun b o e => by
  obtain ⟨n, e, t⟩ := vw_some e
  exact vw_at (S _ _ e t) n t
theorem Kp.go {p : Addr} {n : Nat} {H H' : Hp} (g : Go p n H H') : Kp p H H' := fun b o e => by
  obtain ⟨n, e, t⟩ := vw_some e
  exact vw_at (g.at e n) n t
theorem Kp.at {p b : Addr} {H H' : Hp} {o : HO} (k : Kp p H H') (h : H b = some o) (hb : b ≠ p) (ho : ∀ ps, o ≠ .tbl ps) : H' b = some o := (vw_some (k b o (vw_at h hb ho))).2.1
mutual
theorem da_strip {p : Addr} {H : Hp} : ∀ {v : V} {d : PyData}, Da (mask (fun b => b = p) H) v d → Da (vw p H) v d
  | _, _, .non => .non
  | _, _, .bl b => .bl b
  | _, _, .int i => .int i
  | _, _, .str x => .str x
  | _, _, .lst e n t => .lst (vw_at (mask_some e).2 (mask_some e).1 fun _ z => nomatch z) n (daAll_strip t)
  | _, _, .tup e t => .tup (vw_at (mask_some e).2 (mask_some e).1 fun _ z => nomatch z) (daAll_strip t)
  | _, _, .dct e t => .dct (vw_at (mask_some e).2 (mask_some e).1 fun _ z => nomatch z) (daAll_strip t)
theorem daAll_strip {p : Addr} {H : Hp} : ∀ {vs : List V} {ds : List PyData}, DaAll (mask (fun b => b = p) H) vs ds → DaAll (vw p H) vs ds
  | _, _, .nil => .nil
  | _, _, .cons h t => .cons (da_strip h) (daAll_strip t)
end
/-- what is asked to divide: 0 as a Ratio, or data -/
def Ob (C p : Addr) (H : Hp) (x : V) : Prop := RatAt C (vw p H) x 0 1 ∨ ∃ d, Da (vw p H) x d ∧ OddG d
theorem Ob.kp {C p : Addr} {H H' : Hp} {x : V} (k : Kp p H H') (o : Ob C p H x) : Ob C p H' x :=
  o.imp (fun h => h.same k) fun ⟨d, a, g⟩ => ⟨d, a.same k, g⟩
theorem RatAt.vw {C p : Addr} {k : Nat} {H : Hp} {v : V} {n u : Int} (pot : PotAt H p k) (h : RatAt C H v n u) : RatAt C (vw p H) v n u := by
  obtain ⟨a, dx, e, h⟩ := h
  refine ⟨a, dx, e, vw_at h (fun z => ?_) fun _ z => nomatch z⟩
  obtain ⟨_, _, _, f, _⟩ := pot
  rw [z, f] at h
  cases h
theorem PairAt.vw {p : Addr} {k : Nat} {H : Hp} {v : V} {n u : Int} (pot : PotAt H p k) (h : PairAt H v n u) : PairAt (vw p H) v n u := by
  obtain ⟨a, e, h⟩ := h
  refine ⟨a, e, vw_at h (fun z => ?_) fun _ z => nomatch z⟩
  obtain ⟨_, _, _, f, _⟩ := pot
  rw [z, f] at h
  cases h
theorem PotAt.ext {p : Addr} {k : Nat} {H H' : Hp} (S : ExtN H H') (h : PotAt H p k) : PotAt H' p k := by
  obtain ⟨a, b, c, e, r⟩ := h
  exact ⟨a, b, c, S _ _ e (fun _ z => nomatch z), r⟩
theorem codeO_no {c : Addr} {q : Str} {xs : List V} : CodeO c q ≠ .lst xs := fun z => by
  unfold CodeO at z
  cases z
theorem Tabs.go {T : List (Addr × Str)} {p : Addr} {m n : Nat} {H H' : Hp} (g : Go p n H H') (pot : PotAt H p m) (t : Tabs T H) : Tabs T H' := fun x hx => by
  obtain ⟨a, b, c, f, _⟩ := pot
  obtain ⟨ps, h1, h2, h3⟩ := t x hx
  refine ⟨ps, g.at h1 (fun z => ?_), h2, fun ps cv hc => ?_⟩
  · rw [z, f] at h1
    cases h1
  · obtain ⟨y, e1, e2⟩ := h3 ps cv hc
    refine ⟨y, e1, g.at e2 fun z => ?_⟩
    rw [z, f] at e2
    exact codeO_no (Option.some.inj e2).symm
theorem da_ty {K : PySem.W.Frag} {mg : Str → Option Value} {a : Ad} (T : Txt K mg a) {H : Hp} {x : V} {d : PyData} (h : Da H x d) : ∃ t, TyX K H x (.type t) ∧ PySem.W.kitOne K (.type t) (.ref a.Ratio) = some false ∧
    ((∃ i, d = .int i ∧ x = .int i ∧ PySem.W.kitOne K (.type t) (.type "int") = some true ∧ PySem.W.kitOne K (.type t) (.type "bool") = some false) ∨
     (∃ b, d = .bool b ∧ PySem.W.kitOne K (.type t) (.type "int") = some true ∧ PySem.W.kitOne K (.type t) (.type "bool") = some true) ∨
     ((∀ i, d ≠ .int i) ∧ (∀ b, d ≠ .bool b) ∧ PySem.W.kitOne K (.type t) (.type "int") = some false ∧ PySem.W.kitOne K (.type t) (.type "bool") = some false)) := by
  cases h with
  | non => exact ⟨"NoneType", .base .non, T.ri.kt _ (by simp), .inr (.inr ⟨(fun _ z => nomatch z), (fun _ z => nomatch z), kit_ty (by decide +kernel), kit_ty (by decide +kernel)⟩)⟩
  | bl b => exact ⟨"bool", .base (.bl b), T.ri.kt _ (by simp), .inr (.inl ⟨b, rfl, kit_ty (by decide +kernel), kit_ty (by decide +kernel)⟩)⟩
  | int i => exact ⟨"int", .base (.int i), T.ri.kt _ (by simp), .inl ⟨i, rfl, rfl, kit_ty (by decide +kernel), kit_ty (by decide +kernel)⟩⟩
  | str y => exact ⟨"str", .base (.str y), T.ri.kt _ (by simp), .inr (.inr ⟨(fun _ z => nomatch z), (fun _ z => nomatch z), kit_ty (by decide +kernel), kit_ty (by decide +kernel)⟩)⟩
  | lst e n t => exact ⟨"list", .base (.lst e), T.ri.kt _ (by simp), .inr (.inr ⟨(fun _ z => nomatch z), (fun _ z => nomatch z), kit_ty (by decide +kernel), kit_ty (by decide +kernel)⟩)⟩
  | tup e t => exact ⟨"tuple", .base (.tup e), T.ri.kt _ (by simp), .inr (.inr ⟨(fun _ z => nomatch z), (fun _ z => nomatch z), kit_ty (by decide +kernel), kit_ty (by decide +kernel)⟩)⟩
  | dct e t => exact ⟨"dict", .base (.dK e), T.ri.kt _ (by simp), .inr (.inr ⟨(fun _ z => nomatch z), (fun _ z => nomatch z), kit_ty (by decide +kernel), kit_ty (by decide +kernel)⟩)⟩
end My

namespace My
open PySem PySem.Spec PyProof.Rows L2 G LamX NdefX
abbrev s__law_is_height : Stmt := topS 43
theorem sc__law_is_height : FnScope ["_law_made", "_law_one", "_law_other", "_law_dot", "_law_way", "_law_here", "_law_due", "_law_point", "_law_caught", "_law_share", "_law_at"] ["_law_made", "_law_one", "_law_other", "_law_dot"] (defScope s__law_is_height) := ⟨rfl, rfl, rfl, by decide +kernel, rfl, by decide +kernel, by decide +kernel⟩

def lamH : Str := "_law_is_height.<locals>.<lambda>"
def lamO : Str := "_law_odd_right.<locals>.<lambda>"
/-- the tables of code objects of the two defs that make lambdas -/
abbrev TT (Ph Po : Addr) : List (Addr × Str) := [(Ph, lamH), (Po, lamO)]
theorem hu_H {Ph Po : Addr} (hne : Ph ≠ Po) : ∀ p ∈ TT Ph Po, p.1 = Ph → p.2 = lamH := fun p hp e => by
  simp only [List.mem_cons, List.not_mem_nil, or_false] at hp
  rcases hp with rfl | rfl
  · rfl
  · exact absurd e.symm hne
theorem hu_O {Ph Po : Addr} (hne : Ph ≠ Po) : ∀ p ∈ TT Ph Po, p.1 = Po → p.2 = lamO := fun p hp e => by
  simp only [List.mem_cons, List.not_mem_nil, or_false] at hp
  rcases hp with rfl | rfl
  · exact absurd e hne
  · rfl
/-! ### where the lambdas stand in the law's text -/
def noE : Expr := .Name "" ⟨0, 0, 0, 0⟩
def noS : Stmt := .Pass ⟨0, 0, 0, 0⟩
def forB : Stmt → List Stmt
  | .For _ _ b _ _ => b
  | _ => []
def ifB : Stmt → List Stmt
  | .If _ b _ _ => b
  | _ => []
def ifT : Stmt → Expr
  | .If t _ _ _ => t
  | _ => noE
def stE : Stmt → Expr
  | .Assign _ v _ => v
  | .Expr v _ => v
  | .Return (some v) _ => v
  | _ => noE
def eltE (i : Nat) : Expr → Expr
  | .List es _ => es.getD i noE
  | .Tuple es _ _ => es.getD i noE
  | .Call _ es _ _ => es.getD i noE
  | e => e
def opdE : Expr → Expr
  | .UnaryOp _ e _ => e
  | .Subscript e _ _ => e
  | e => e
def lamAr : Expr → Arguments
  | .Lambda a _ _ _ => a
  | _ => ⟨[], [], none, [], [], none, []⟩
def lamBd : Expr → Expr
  | .Lambda _ b _ _ => b
  | e => e
def lamSc : Expr → Scope
  | .Lambda _ _ s _ => s
  | _ => defScope noS
def isLam : Expr → Bool
  | .Lambda .. => true
  | _ => false
def leH : Expr := eltE 0 (stE ((defBody s__law_is_height).getD 3 noS))
theorem is_lamH : isLam leH = true := by decide +kernel
abbrev spShP (K : PySem.W.Frag) (a : Ad) : Sp := spShare K a.Ratio a.Point a.Line a.BadPoint a.Off
def tRH (K : PySem.W.Frag) (a : Ad) (E : XK) : TE := tMeth a.Line "share" (spShP K a) [] E (tVar 0) (tCons (tVar 1) tNil)
abbrev dL (X : Cx) (k : Nat) (e : Expr) (fr : List Str) (js : List Nat) (tb : XK → TE) : LamD X := ⟨lamAr e, lamBd e, lamSc e, fr, js, k, tb⟩
theorem goodL {X : Cx} {k : Nat} {e : Expr} {fr : List Str} {js : List Nat} {tb : XK → TE} (h1 : nscB fr [] fr (lamSc e) = true) (h2 : ∀ (q : Str) (cl : List (Str × Addr)) (pm cv ctv : Value), bindArgs (PySem.W.kla_fn "<lambda>" q (lamAr e) (lamBd e) (lamSc e) cl pm cv ctv) ⟨[], []⟩ = pure [])
    (h3 : ndefB X.env.scope (lamSc e) fr = true) (h4 : js.map (fun j => X.N[j]?) = fr.map some)
    (bd : ∀ (f c' : Addr) (A : Around) (outer : List Env) (s : Shared) (H : Hp) (E : XK), Room k (A.deeper (envF (lamOf X (lamAr e) (lamBd e) (lamSc e) c').nf f s.heap.objs.size)) → PE (ncx (L2.CX X.prog X.w) X.prog X.w X.K X.mg X.base fr (lamOf X (lamAr e) (lamBd e) (lamSc e) c').nf f A outer s H E) (lamBd e) (tb E)) :
    (dL X k e fr js tb).Good := ⟨nscope_by h1, h2, ndef_free h3, ndef_fr h3, h4, bd⟩
/-! ### how long the fractions are -/
abbrev Dq (q : Rat) : Prop := Sz 12 6 q
theorem Dq.w {q : Rat} (h : Dq q) : Wq q := h.mono (by decide) (by decide)
theorem dq_sub {x y : Rat} (a : Dq x) (b : Dq y) : Sz 19 12 (x - y) := a.sub b (by decide) (by decide) (by decide)
theorem dq_mul {x y : Rat} (a : Sz 19 12 x) (b : Sz 19 12 y) : Sz 38 24 (x * y) := a.mul b (by decide) (by decide)
theorem dq_cr {x y : Rat} (a : Sz 38 24 x) (b : Sz 38 24 y) : Sz 63 48 (x - y) := a.sub b (by decide) (by decide) (by decide)
theorem hw_of {X1 Y1 X2 Y2 X Y : Rat} (a1 : Dq X1) (b1 : Dq Y1) (a2 : Dq X2) (b2 : Dq Y2) (a : Dq X) (b : Dq Y) : HW X1 Y1 X2 Y2 X Y where
  a1 := a1.w
  b1 := b1.w
  a2 := a2.w
  b2 := b2.w
  a := a.w
  b := b.w
  wx := (dq_sub a2 a1).mono (by decide) (by decide)
  wy := (dq_sub b2 b1).mono (by decide) (by decide)
  gx := (dq_sub a a1).mono (by decide) (by decide)
  gy := (dq_sub b b1).mono (by decide) (by decide)
  l := (dq_mul (dq_sub a2 a1) (dq_sub b b1)).mono (by decide) (by decide)
  r := (dq_mul (dq_sub b2 b1) (dq_sub a a1)).mono (by decide) (by decide)
theorem hq_sz {X1 Y1 X2 Y2 X Y : Rat} (a1 : Dq X1) (b1 : Dq Y1) (a2 : Dq X2) (b2 : Dq Y2) (a : Dq X) (b : Dq Y) : Sz 63 48 (hq X1 Y1 X2 Y2 X Y) := dq_cr (dq_mul (dq_sub a2 a1) (dq_sub b b1)) (dq_mul (dq_sub b2 b1) (dq_sub a a1))
theorem mid_q {q : Rat} (h : Sz 63 63 q) : Mid q.num ∧ Mid (q.den : Int) := by
  have p : 10 ^ 63 < 10 ^ 64 := by decide +kernel
  exact ⟨Nat.lt_of_le_of_lt h.num p, Nat.lt_of_le_of_lt h.den p⟩
theorem pair_dz {H : Hp} {p : Addr} {n u : Int} (h : H p = some (.tup [.int n, .int u])) : Dz H (.ref p) (pairD n u) := .tup h (.cons (.int _) (.cons (.int _) .nil))
theorem told_raises {K : PySem.W.Frag} {B AE : Addr} {tl : XK → Hp → VK → Prop} {H : Hp} {Q : VK} {vP : Hp → V → Prop} (ra : Raises B tl H vP) (hm : ∀ H H' v, Same H H' → vP H v → vP H' v) (hx : PySem.W.exmOne K (.ref B) (.ref AE) = some true)
    (q : ∀ H' e t wv, Same H H' → H' t = some (.tup [.ref e, .non]) → Caught H' e B wv → vP H' wv → Q (.ref t) H') : TTold K AE tl H Q := by
  intro H1 S1 E' Q' hE hQ
  refine ra H1 S1 E' Q' fun dd wv H' S2 hdd hw => hE B (some dd) H' hx fun e he t ht => ?_
  have Se := same_new (o := exc e B (some dd)) he
  have St := same_new (o := .tup [.ref e, .non]) ht
  exact q _ e t wv (((S1.trans S2).trans Se).trans St) upd_same ⟨dd, St _ _ upd_same, St _ _ (Se _ _ hdd)⟩ (hm _ _ _ (Se.trans St) hw)
theorem told_back {K : PySem.W.Frag} {AE : Addr} {tl : XK → Hp → VK → Prop} {H : Hp} {Q : VK} {R : Hp → V → Prop} (rb : ∀ H1, Same H H1 → ∀ (E' : XK) (Q' : VK), (∀ v H', Same H1 H' → R H' v → Q' v H') → tl E' H1 Q') (hm : ∀ H H' v, Same H H' → R H v → R H' v)
    (q : ∀ H' t v, Same H H' → H' t = some (.tup [.non, v]) → R H' v → Q (.ref t) H') : TTold K AE tl H Q := by
  intro H1 S1 E' Q' hE hQ
  refine rb H1 S1 E' Q' fun v H' S2 hr => hQ v H' fun t ht => ?_
  have St := same_new (o := .tup [.non, v]) ht
  exact q _ t v ((S1.trans S2).trans St) upd_same (hm _ _ _ St hr)
def spHt (C CP CL Ph Po : Addr) : Sp := fun vs H Q _ => ∃ v1 v2 v3 v4 X1 Y1 X2 Y2 X Y, vs = [v1, v2, v3, v4] ∧ LnQ C CP CL H v1 X1 Y1 X2 Y2 ∧ SpAt H v2 X1 Y1 ∧ SpAt H v3 X2 Y2 ∧ SpAt H v4 X Y ∧ ¬ (X1 = X2 ∧ Y1 = Y2) ∧ Dq X1 ∧ Dq Y1 ∧ Dq X2 ∧ Dq Y2 ∧ Dq X ∧ Dq Y ∧ Tabs (TT Ph Po) H ∧
  ∀ H', Tabs (TT Ph Po) H' → ExtN H H' → Q (.bl true) H'
theorem LnQ.ext {C CP CL : Addr} {H H' : Hp} {z : V} {X1 Y1 X2 Y2 : Rat} (S : ExtN H H') (h : LnQ C CP CL H z X1 Y1 X2 Y2) : LnQ C CP CL H' z X1 Y1 X2 Y2 := by
  obtain ⟨b, dx, v, w, e, h1, ⟨b1, d1, x1, y1, e1, g1, ⟨i1, j1, k1, l1⟩, ⟨i2, j2, k2, l2⟩⟩, ⟨b3, d3, x3, y3, e3, g3, ⟨i3, j3, k3, l3⟩, ⟨i4, j4, k4, l4⟩⟩⟩ := h
  have f : ∀ {C dx : Addr} {fs : List (Str × V)}, ∀ ps, HO.ins C dx fs ≠ .tbl ps := fun _ z => nomatch z
  exact ⟨b, dx, v, w, e, S _ _ h1 f, ⟨b1, d1, x1, y1, e1, S _ _ g1 f, ⟨i1, j1, k1, S _ _ l1 f⟩, ⟨i2, j2, k2, S _ _ l2 f⟩⟩, ⟨b3, d3, x3, y3, e3, S _ _ g3 f, ⟨i3, j3, k3, S _ _ l3 f⟩, ⟨i4, j4, k4, S _ _ l4 f⟩⟩⟩
theorem PtQ.ext {C CP : Addr} {H H' : Hp} {z : V} {X Y : Rat} (S : ExtN H H') (h : PtQ C CP H z X Y) : PtQ C CP H' z X Y := by
  obtain ⟨b1, d1, x1, y1, e1, g1, ⟨i1, j1, k1, l1⟩, ⟨i2, j2, k2, l2⟩⟩ := h
  have f : ∀ {C dx : Addr} {fs : List (Str × V)}, ∀ ps, HO.ins C dx fs ≠ .tbl ps := fun _ z => nomatch z
  exact ⟨b1, d1, x1, y1, e1, S _ _ g1 f, ⟨i1, j1, k1, S _ _ l1 f⟩, ⟨i2, j2, k2, S _ _ l2 f⟩⟩
theorem PairAt.ext {H H' : Hp} {v : V} {n u : Int} (S : ExtN H H') (h : PairAt H v n u) : PairAt H' v n u := let ⟨b, e, h1⟩ := h; ⟨b, e, S _ _ h1 fun _ z => nomatch z⟩
theorem WayAt.ext {H H' : Hp} {v : V} {A B : Rat} (S : ExtN H H') (h : WayAt H v A B) : WayAt H' v A B := let ⟨b, x, y, e, h1, h2, h3⟩ := h; ⟨b, x, y, e, S _ _ h1 (fun _ z => nomatch z), h2.ext S, h3.ext S⟩
theorem SpAt.ext {H H' : Hp} {v : V} {X Y : Rat} (S : ExtN H H') (h : SpAt H v X Y) : SpAt H' v X Y := let ⟨b, x, y, d, e, h1, c⟩ := h; ⟨b, x, y, d, e, S _ _ h1 (fun _ z => nomatch z), c⟩
section
variable {P : Program} {w : World} {K : PySem.W.Frag} {mg : Str → Option Value} {base : Heap} {a : Ad}
abbrev htN : List Str := ["_law_made", "_law_one", "_law_other", "_law_dot", "_law_way", "_law_here", "_law_due", "_law_point", "_law_caught", "_law_share", "_law_at"]
abbrev cxHt (P : Program) (w : World) (K : PySem.W.Frag) (mg : Str → Option Value) (base : Heap) (a : Ad) (cA : Addr) (A : Around) (outer : List Env) (s : Shared) (H : Hp) (E : XK) : Cx :=
  (cxOf CX0 P w K mg base htN "_law_is_height" (defScope s__law_is_height) a._law_is_height (.ref cA) A outer s H E).nox
theorem ok_is_height {cA Ph Po : Addr} {oc kV doc pm ct : Value} {an od : Option Addr} {osl : Array (Option Value)} (T : Txt K mg a) (hne : Ph ≠ Po)
    (lk : K.lookup a._law_is_height = some ⟨oc, od, .func (PySem.W.fnOf "_law_is_height" "_law_is_height" (defArgs s__law_is_height) (defBody s__law_is_height) (defScope s__law_is_height) .none kV doc pm an (.ref cA) ct), osl⟩)
    (hc : PySem.W.codeIn K (.ref cA) "_law_is_height" = true) (TB : TabB base mg cA Ph)
    {fdt : FuncData} (Gt : FnC P w K mg base CX0 1 a._law_told fdt ["_law_ask"] (spTold K a.AboutError)) (bt : Binds K fdt ["_law_ask"] [])
    {fd__law_pair_of : FuncData} (G__law_pair_of : Fn P w K mg base CX0 1 a._law_pair_of fd__law_pair_of ["_law_made"] (spPo a.Ratio)) (b__law_pair_of : Binds K fd__law_pair_of ["_law_made"] [])
    {fd__law_pair : FuncData} (G__law_pair : Fn P w K mg base CX0 2 a._law_pair fd__law_pair ["_law_above", "_law_under"] spPair) (b__law_pair : Binds K fd__law_pair ["_law_above", "_law_under"] [])
    {fd_Point___eq__ : FuncData} (G_Point___eq__ : FnOk P w K mg base CX0 4 a.Point___eq__ fd_Point___eq__ ["self", "other"] (spPEq K a.Ratio a.Point)) (b_Point___eq__ : Binds K fd_Point___eq__ ["self", "other"] [])
    {fd_Line_share : FuncData} (G_Line_share : FnOk P w K mg base (L2.CX P w) 10 a.Line_share fd_Line_share ["self", "point"] (spShare K a.Ratio a.Point a.Line a.BadPoint a.Off)) (b_Line_share : Binds K fd_Line_share ["self", "point"] [])
    {fd_Line_height : FuncData} (G_Line_height : FnOk P w K mg base (L2.CX P w) 9 a.Line_height fd_Line_height ["self", "point"] (spHeight K a.Ratio a.Point a.Line a.BadPoint)) (b_Line_height : Binds K fd_Line_height ["self", "point"] [])
    {fd__law_made_point : FuncData} (G__law_made_point : Fn P w K mg base CX0 8 a._law_made_point fd__law_made_point ["_law_dot"] (spMadeP a.Ratio a.Point)) (b__law_made_point : Binds K fd__law_made_point ["_law_dot"] [])
    {fd__law_cross_of : FuncData} (G__law_cross_of : Fn P w K mg base CX0 3 a._law_cross_of fd__law_cross_of ["_law_one", "_law_other"] spCross) (b__law_cross_of : Binds K fd__law_cross_of ["_law_one", "_law_other"] [])
    {fd__law_difference : FuncData} (G__law_difference : Fn P w K mg base CX0 3 a._law_difference fd__law_difference ["_law_one", "_law_other"] spDif) (b__law_difference : Binds K fd__law_difference ["_law_one", "_law_other"] [])
    : Fn P w K mg base CX0 14 a._law_is_height (PySem.W.fnOf "_law_is_height" "_law_is_height" (defArgs s__law_is_height) (defBody s__law_is_height) (defScope s__law_is_height) .none kV doc pm an (.ref cA) ct) ["_law_made", "_law_one", "_law_other", "_law_dot"] (spHt a.Ratio a.Point a.Line Ph Po) := by
  refine fnOf lk hc sc__law_is_height (fun vs H Q E h => ?len) (fun A outer s H vs Q E hq hr h => ?body)
  case len => obtain ⟨v1, v2, v3, v4, X1, Y1, X2, Y2, X, Y, rfl, _⟩ := h; rfl
  case body =>
    suffices z : ∃ t, PSs (cxHt P w K mg base a cA A outer s H E) (defBody s__law_is_height) t ∧ t { nx := fun _ H' => Q .non H', rt := Q } (L2.start htN vs) H by
      obtain ⟨t, z1, z2⟩ := z
      exact ⟨t, z1.nox, z2⟩
    have g1 : (dL (cxHt P w K mg base a cA A outer s H E) 11 leH ["_law_made", "_law_point"] [0, 7] (tRH K a)).Good := goodL (by decide +kernel) (fun _ _ _ _ _ => rfl) (show ndefB (defScope s__law_is_height) (lamSc leH) ["_law_made", "_law_point"] = true by decide +kernel) rfl fun f c' A outer s H E hr2 =>
      pe_meth (pv 0) T.clL T.sh G_Line_share (hr2.mono (by omega)) b_Line_share .nil (passes_call (takes_of rfl rfl rfl rfl) fun _ _ _ _ h => h) (pa_cons (pv 1) pa_nil)
    refine ⟨_, (pss_cons (ps_par (i := 4) (j := 5) (by rfl) sc__law_is_height.nd rfl rfl (by decide) rfl rfl (pa_cons (pe_fn G__law_difference hq (hr.mono (by omega)) (by rfl) T.g__law_difference T.k__law_difference b__law_difference .nil pass0 (pa_cons (pv 1) (pa_cons (pv 2) pa_nil))) (pa_cons (pe_fn G__law_difference hq (hr.mono (by omega)) (by rfl) T.g__law_difference T.k__law_difference b__law_difference .nil pass0 (pa_cons (pv 1) (pa_cons (pv 3) pa_nil))) pa_nil)) (by rfl))
      (pss_cons (ps_asg (pe_tup (pa_cons (pe_fn G__law_cross_of hq (hr.mono (by omega)) (by rfl) T.g__law_cross_of T.k__law_cross_of b__law_cross_of .nil pass0 (pa_cons (pv 4) (pa_cons (pv 5) pa_nil))) (pa_cons (pe_fn G__law_made_point hq (hr.mono (by omega)) (by rfl) T.g__law_made_point T.k__law_made_point b__law_made_point .nil pass0 (pa_cons (pv 3) pa_nil)) pa_nil))) (pg_tup rfl (pgs_cons (pg_name (i := 6) sc__law_is_height.nd rfl (Or.inl rfl)) (pgs_cons (pg_name (i := 7) sc__law_is_height.nd rfl (Or.inr rfl)) pgs_nil))))
      (pss_cons (ps_if (pt_cmpR op_ne (pe_callB (call_reprF hq hr.units) (by rfl) T.n_repr (by decide +kernel) (pa_cons (pe_fn G__law_pair_of hq (hr.mono (by omega)) (by rfl) T.g__law_pair_of T.k__law_pair_of b__law_pair_of .nil pass0 (pa_cons (pe_meth (pv 0) T.clL T.hg G_Line_height (hr.mono (by omega)) b_Line_height .nil passF (pa_cons (pv 7) pa_nil)) pa_nil)) pa_nil)) (pe_callB (call_reprF hq hr.units) (by rfl) T.n_repr (by decide +kernel) (pa_cons (pv 6) pa_nil)) (nomark _)) (pss_one (ps_ret pe_bl)) pss_nil)
      (pss_cons (ps_asg (pe_fnC Gt hq (by rfl) T.g__law_told T.k__law_told bt .nil pass0 (pa_cons (pe_lamK (T := TT Ph Po) TB rfl (List.mem_cons_self ..) (hu_H hne) rfl (lamS_by (sc := defScope s__law_is_height) (by decide +kernel))) pa_nil) (known_here g1 (fun _ _ _ => rfl) (hr.mono (by show 11 + 1 + 1 ≤ 13; decide)))) (pg_tup rfl (pgs_cons (pg_name (i := 8) sc__law_is_height.nd rfl (Or.inl rfl)) (pgs_cons (pg_name (i := 9) sc__law_is_height.nd rfl (Or.inl rfl)) pgs_nil))))
      (pss_cons (ps_if (pt_cmpR op_ne (pe_ix ix_tup (pv 6) pe_int (fun _ _ => rfl)) pe_int (nomark _)) (pss_one (ps_ret (pe_and (pe_callB (call_isCaught T.ek) (by rfl) T.n_isinstance (by decide +kernel) (pa_cons (pv 8) (pa_cons (pe_glob (v := .ref a.Off) (by rfl) T.g_Off rfl) pa_nil))) (pe_one (pe_cmpR (op_eqK T.eqp (fnR G_Point___eq__ b_Point___eq__) (hr.mono (by omega)) pass0) (pe_valueC (pv 8)) (pv 7) (nomark _)))))) pss_nil)
      (pss_cons (ps_set (i := 10) sc__law_is_height.nd rfl (Or.inl rfl) (pe_ifExp (pt_cmpR op_ne (pe_ix ix_tup (pe_ix ix_tup (pv 4) pe_int (fun _ _ => rfl)) pe_int (fun _ _ => rfl)) pe_int (nomark _)) pe_int pe_int))
      (pss_cons (ps_set (i := 6) sc__law_is_height.nd rfl (Or.inl rfl) (pe_fn G__law_pair hq (hr.mono (by omega)) (by rfl) T.g__law_pair T.k__law_pair b__law_pair .nil pass0 (pa_cons (pe_op op_mulW (pe_ix ix_tup (pe_ix ix_tup (pv 5) (pv 10) (fun _ _ => rfl)) pe_int (fun _ _ => rfl)) (pe_ix ix_tup (pe_ix ix_tup (pv 4) (pv 10) (fun _ _ => rfl)) pe_int (fun _ _ => rfl))) (pa_cons (pe_op op_mulW (pe_ix ix_tup (pe_ix ix_tup (pv 5) (pv 10) (fun _ _ => rfl)) pe_int (fun _ _ => rfl)) (pe_ix ix_tup (pe_ix ix_tup (pv 4) (pv 10) (fun _ _ => rfl)) pe_int (fun _ _ => rfl))) pa_nil))))
      (pss_one (ps_ret (pe_and (pe_cmpR op_isN (pv 8) pe_non (nomark _)) (pe_one (pe_cmpR op_eq (pe_callB (call_reprF hq hr.units) (by rfl) T.n_repr (by decide +kernel) (pa_cons (pe_fn G__law_pair_of hq (hr.mono (by omega)) (by rfl) T.g__law_pair_of T.k__law_pair_of b__law_pair_of .nil pass0 (pa_cons (pv 9) pa_nil)) pa_nil)) (pe_callB (call_reprF hq hr.units) (by rfl) T.n_repr (by decide +kernel) (pa_cons (pv 6) pa_nil)) (nomark _))))))))))))), ?_⟩
    obtain ⟨v1, v2, v3, v4, X1, Y1, X2, Y2, X, Y, rfl, hL, s1, s2, s3, ne, d1, d2, d3, d4, d5, d6, tabs, q⟩ := h
    have W := hw_of d1 d2 d3 d4 d5 d6
    refine ⟨_, rfl, _, rfl, _, _, _, _, _, _, rfl, s1, s2, W.a1, W.b1, W.a2, W.b2, fun z1 H1 S1 g1 => ?_⟩
    refine ⟨_, rfl, _, rfl, _, _, _, _, _, _, rfl, s1.same S1, s3.same S1, W.a1, W.b1, W.a, W.b, fun z2 H2 S2 g2 => ?_⟩
    replace g1 := g1.same S2
    refine ⟨_, _, rfl, ?_⟩
    refine ⟨_, rfl, _, rfl, _, _, _, _, _, _, rfl, g1, g2, W.wx, W.wy, W.gx, W.gy, fun z3 H3 S3 g3 => ?_⟩
    refine ⟨_, rfl, _, X, Y, rfl, ((s3.same S1).same S2).same S3, W.a, W.b, fun z4 H4 S4 pt => ?_⟩
    refine ⟨(by show 2 ≤ sizeLine; decide), fun t5 f5 => ⟨t5, _, rfl, SqT.of upd_same, rfl, _, _, rfl, _, _, rfl, rfl, ?_⟩⟩
    have S5 := same_new (o := .tup [z3, z4]) f5
    have Sa := (((S1.trans S2).trans S3).trans S4).trans S5
    replace hL := hL.same Sa
    replace pt := PtQ.same S5 pt
    replace g1 := ((g1.same S3).same S4).same S5
    replace g2 := ((g2.same S3).same S4).same S5
    replace g3 := PairAt.same S5 (PairAt.same S4 g3)
    replace tabs := Tabs.ext tabs Sa
    generalize upd H4 t5 (.tup [z3, z4]) = H5 at hL pt g1 g2 g3 Sa tabs ⊢
    rw [show (X2 - X1) * (Y - Y1) - (Y2 - Y1) * (X - X1) = My.hq X1 Y1 X2 Y2 X Y from rfl] at g3
    have hz := hq_sz d1 d2 d3 d4 d5 d6
    obtain ⟨mn, md⟩ := mid_q (hz.mono (by decide) (by decide))
    obtain ⟨bL, dL, w1, w2, rfl, hbL, p1, p2⟩ := id hL
    refine ⟨_, rfl, bL, dL, _, rfl, hbL, rfl, _, rfl, _, _, X1, Y1, X2, Y2, rfl, hL, .inl ⟨X, Y, pt, W, fun z6 H6 S6 r6 => ?_⟩⟩
    refine ⟨_, _, _, rfl, r6, fun p7 H7 np7 S7 pr7 => ?_⟩
    obtain ⟨_, e7, hp7⟩ := pr7
    cases e7
    obtain ⟨b3, rfl, hb3⟩ := g3
    have S67 := S6.trans S7
    refine ⟨p7, pairD _ _, rfl, pair_dz hp7, pair_gd mn md, rfl, _, rfl, b3, pairD _ _, rfl, pair_dz (S67 _ _ hb3), pair_gd mn md, rfl, ?_⟩
    refine ⟨rfl, _, rfl, ite2 (fun c => absurd c (by simp)) (fun _ => ?_)⟩
    replace hL := hL.same S67
    replace pt := PtQ.same S67 pt
    replace g1 := g1.same S67
    replace g2 := g2.same S67
    replace hb3 := S67 _ _ hb3
    replace tabs := Tabs.ext tabs S67
    have eA : ExtN H H7 := ExtN.of (Sa.trans S67)
    clear hbL p1 p2 S67 S6 S7 Sa r6 hp7 np7
    refine ⟨tabs, fun f c' H8 eN T8 nn nf hf hc => ⟨f, _, _, ⟨c', rfl, rfl⟩, rfl, hf, hc, f, rfl, ?_⟩⟩
    replace hL := hL.ext eN
    replace pt := pt.ext eN
    replace g1 := g1.ext eN
    replace g2 := g2.ext eN
    replace hb3 := eN _ _ hb3 fun _ z => nomatch z
    replace eA := eA.trans eN
    clear nn nf hf hc tabs eN
    by_cases hz0 : My.hq X1 Y1 X2 Y2 X Y = 0
    · refine told_back (R := fun H v => RatQ a.Ratio H v (shq X1 Y1 X2 Y2 X Y)) (fun H1 S1 E' Q' hQ => ?_) (fun H H' v S h => h.same S) fun H9 t v S9 ht r9 => ?_
      · obtain ⟨b, dx, w1, w2, e, hb, _⟩ := hL.same S1
        cases e
        exact ⟨_, rfl, _, dx, _, rfl, hb, rfl, _, rfl, _, _, X1, Y1, X2, Y2, rfl, hL.same S1, .inl ⟨X, Y, pt.same S1, W, ne, fun z => absurd hz0 z, fun _ z H' S r => hQ z H' S r⟩⟩
      replace hb3 := S9 _ _ hb3
      replace g1 := g1.same S9
      replace g2 := g2.same S9
      replace T8 := Tabs.ext T8 S9
      replace eA := eA.trans (ExtN.of S9)
      refine ⟨t, _, rfl, SqT.of ht, rfl, _, _, rfl, _, _, rfl, rfl, ?_⟩
      refine ⟨_, rfl, _, _, _, _, rfl, rfl, SqT.of hb3, rfl, rfl, _, rfl, ite2 (fun c => ?_) (fun _ => ?_)⟩
      · rw [hz0] at c
        exact absurd c (by decide)
      obtain ⟨bw, wx, wy, rfl, hw, ⟨_, e1, k1⟩, ⟨_, e2, k2⟩⟩ := g1
      cases e1
      cases e2
      obtain ⟨bh, hx, hy, rfl, hh, ⟨_, e3, k3⟩, ⟨_, e4, k4⟩⟩ := g2
      cases e3
      cases e4
      have sz : Sz 31 31 (shq X1 Y1 X2 Y2 X Y) := by
        unfold shq
        by_cases z : X2 - X1 = 0
        · have z1 : Y2 - Y1 ≠ 0 := fun z' => ne (by constructor <;> grind)
          rw [if_pos z]
          exact (dq_sub d6 d2).div (dq_sub d4 d2) z1 (by decide) (by decide)
        · rw [if_neg z]
          exact (dq_sub d5 d1).div (dq_sub d3 d1) z (by decide) (by decide)
      obtain ⟨mn2, md2⟩ := mid_q (sz.mono (by decide) (by decide))
      refine ⟨_, rfl, _, _, _, _, rfl, rfl, SqT.of hw, rfl, _, _, _, _, rfl, rfl, SqT.of k1, rfl, rfl, _, rfl, ite2 (fun c => ?_) (fun c => ?_)⟩
      · have z0 : X2 - X1 ≠ 0 := fun z => by
          rw [z] at c
          exact absurd c (by decide)
        have es : shq X1 Y1 X2 Y2 X Y = (X - X1) / (X2 - X1) := if_neg z0
        skip
        refine ⟨_, rfl, _, rfl, _, _, _, _, rfl, rfl, SqT.of hh, rfl, _, _, _, _, rfl, rfl, SqT.of k3, rfl, _, rfl, _, rfl, _, _, _, _, rfl, rfl, SqT.of hw, rfl, _, _, _, _, rfl, rfl, SqT.of k1, rfl, _, _, rfl, rfl, cw (wd_ud W.gx.wn) (wd_ud W.wx.wd), ?_⟩
        refine ⟨_, rfl, _, rfl, _, _, _, _, rfl, rfl, SqT.of hh, rfl, _, _, _, _, rfl, rfl, SqT.of k3, rfl, _, rfl, _, rfl, _, _, _, _, rfl, rfl, SqT.of hw, rfl, _, _, _, _, rfl, rfl, SqT.of k1, rfl, _, _, rfl, rfl, cw (wd_ud W.gx.wd) (wd_ud W.wx.wn), ?_⟩
        refine ⟨_, _, rfl, Int.mul_ne_zero (rq_ne _) (num_ne z0), wd_ud2 W.gx.wd W.wx.wn, fun p10 H10 np10 S10 r10 => ?_⟩
        rw [q_div _ _ z0, ← es] at r10
        obtain ⟨_, e10, k10⟩ := r10
        cases e10
        refine ⟨_, rfl, rfl, _, rfl, ite2 (fun _ => ?_) (fun c => absurd (decide_eq_true rfl) c)⟩
        refine ⟨_, rfl, _, _, _, rfl, r9.same S10, fun p11 H11 np11 S11 pr11 => ?_⟩
        obtain ⟨_, e11, k11⟩ := pr11
        cases e11
        refine ⟨p11, pairD _ _, rfl, pair_dz k11, pair_gd mn2 md2, rfl, _, rfl, p10, pairD _ _, rfl, pair_dz (S11 _ _ k10), pair_gd mn2 md2, rfl, rfl, ?_⟩
        rw [decide_eq_true rfl]
        exact q _ (Tabs.ext (Tabs.ext T8 S10) S11) (eA.trans (ExtN.of (S10.trans S11)))
      · have z0 : X2 - X1 = 0 := num_zero.mp (by simpa using c)
        have z1 : Y2 - Y1 ≠ 0 := fun z' => ne (by constructor <;> grind)
        have es : shq X1 Y1 X2 Y2 X Y = (Y - Y1) / (Y2 - Y1) := if_pos z0
        refine ⟨_, rfl, _, rfl, _, _, _, _, rfl, rfl, SqT.of hh, rfl, _, _, _, _, rfl, rfl, SqT.of k4, rfl, _, rfl, _, rfl, _, _, _, _, rfl, rfl, SqT.of hw, rfl, _, _, _, _, rfl, rfl, SqT.of k2, rfl, _, _, rfl, rfl, cw (wd_ud W.gy.wn) (wd_ud W.wy.wd), ?_⟩
        refine ⟨_, rfl, _, rfl, _, _, _, _, rfl, rfl, SqT.of hh, rfl, _, _, _, _, rfl, rfl, SqT.of k4, rfl, _, rfl, _, rfl, _, _, _, _, rfl, rfl, SqT.of hw, rfl, _, _, _, _, rfl, rfl, SqT.of k2, rfl, _, _, rfl, rfl, cw (wd_ud W.gy.wd) (wd_ud W.wy.wn), ?_⟩
        refine ⟨_, _, rfl, Int.mul_ne_zero (rq_ne _) (num_ne z1), wd_ud2 W.gy.wd W.wy.wn, fun p10 H10 np10 S10 r10 => ?_⟩
        rw [q_div _ _ z1, ← es] at r10
        obtain ⟨_, e10, k10⟩ := r10
        cases e10
        refine ⟨_, rfl, rfl, _, rfl, ite2 (fun _ => ?_) (fun c => absurd (decide_eq_true rfl) c)⟩
        refine ⟨_, rfl, _, _, _, rfl, r9.same S10, fun p11 H11 np11 S11 pr11 => ?_⟩
        obtain ⟨_, e11, k11⟩ := pr11
        cases e11
        refine ⟨p11, pairD _ _, rfl, pair_dz k11, pair_gd mn2 md2, rfl, _, rfl, p10, pairD _ _, rfl, pair_dz (S11 _ _ k10), pair_gd mn2 md2, rfl, rfl, ?_⟩
        rw [decide_eq_true rfl]
        exact q _ (Tabs.ext (Tabs.ext T8 S10) S11) (eA.trans (ExtN.of (S10.trans S11)))
    · refine told_raises (B := a.Off) (vP := fun _ v => v = z4) (fun H1 S1 E' Q' hE => ?_) (fun H H' v S h => h) T.x_Off fun H9 e t wv S9 ht ct hw => ?_
      · obtain ⟨b, dx, w1, w2, e, hb, _⟩ := hL.same S1
        cases e
        exact ⟨_, rfl, _, dx, _, rfl, hb, rfl, _, rfl, _, _, X1, Y1, X2, Y2, rfl, hL.same S1, .inl ⟨X, Y, pt.same S1, W, ne, fun _ d H' S e => hE d _ H' S e rfl, fun z => absurd z hz0⟩⟩
      subst hw
      replace pt := pt.same S9
      refine ⟨t, _, rfl, SqT.of ht, rfl, _, _, rfl, _, _, rfl, rfl, ?_⟩
      refine ⟨_, rfl, _, _, _, _, rfl, rfl, SqT.of (S9 _ _ hb3), rfl, rfl, _, rfl, ite2 (fun _ => ?_) (fun c => ?_)⟩
      · refine ⟨_, rfl, e, a.Off, _, _, _, true, rfl, .own _, T.c_Off, ct, T.t_Off, true, rfl, iteT ?_⟩
        obtain ⟨b, dx, w1, w2, rfl, hb, r1, r2⟩ := id pt
        have nfC : PySem.W.notFirst K a.Point (.ref a.Point) = true := by simp [PySem.W.notFirst]
        refine ⟨_, rfl, e, a.Off, _, rfl, T.c_Off, ct, _, rfl, b, dx, _, _, rfl, hb, .ins hb, nfC, _, _, _, _, _, _, rfl, pt, pt, fun H10 S10 => ?_⟩
        rw [decide_eq_true ⟨rfl, rfl⟩]
        exact q _ (Tabs.ext (Tabs.ext T8 S9) S10) (eA.trans (ExtN.of (S9.trans S10)))
      · exact absurd (show (My.hq X1 Y1 X2 Y2 X Y).num = 0 by simpa using c) (num_ne hz0)
end
end My

namespace My
open PySem PySem.Spec PyProof.Rows L2 G LamX NdefX
abbrev s__law_right : Stmt := topS 46
theorem sc__law_right : FnScope ["_law_pot_here", "_law_one", "_law_third", "_law_other", "_law_fourth", "_law_first", "_law_second", "_law_some", "_law_met", "_law_its", "_law_due", "_law_dot"] ["_law_pot_here"] (defScope s__law_right) := ⟨rfl, rfl, rfl, by decide +kernel, rfl, by decide +kernel, by decide +kernel⟩

def spRi (Ph Po : Addr) : Sp := fun vs H Q _ => ∃ (p : Addr) (k : Nat), vs = [.ref p] ∧ PotAt H p k ∧ k ≤ 80000 ∧ Tabs (TT Ph Po) H ∧ ∀ H', Tabs (TT Ph Po) H' → Kp p H H' → PotAt H' p (k + 30) → Q (.bl true) H'
theorem Go.ex {p : Addr} {n : Nat} {H H1 H2 : Hp} (g : Go p n H H1) (S : Same H1 H2) : Go p n H H2 := ⟨g.keep.trans (mask_mono S), g.pot.same S⟩
/-- the four dots, and how long they are -/
structure RS (p : Addr) (k : Nat) (Ph Po : Addr) (H0 H : Hp) (v1 v2 v3 v4 : V) (X1 Y1 X2 Y2 X3 Y3 X4 Y4 : Rat) : Prop where
  go : Go p k H0 H
  tb : Tabs (TT Ph Po) H
  s1 : SpAt H v1 X1 Y1
  s2 : SpAt H v2 X2 Y2
  s3 : SpAt H v3 X3 Y3
  s4 : SpAt H v4 X4 Y4
  a1 : Sz 4 1 X1
  b1 : Sz 4 1 Y1
  a2 : Sz 4 1 X2
  b2 : Sz 4 1 Y2
  a3 : Sz 9 4 X3
  b3 : Sz 9 4 Y3
  a4 : Dq X4
  b4 : Dq Y4
  n12 : ¬ (X1 = X2 ∧ Y1 = Y2)
  n34 : ¬ (X3 = X4 ∧ Y3 = Y4)
theorem sub62 {x y : Rat} (a : Sz 4 1 x) (b : Sz 4 1 y) : Sz 6 2 (x - y) := a.sub b (by decide) (by decide) (by decide)
theorem al_9 {X1 X2 : Rat} {s r : Int} (a1 : Sz 4 1 X1) (a2 : Sz 4 1 X2) (r0 : r ≠ 0) (hs : s.natAbs ≤ 10) (hr : r.natAbs ≤ 10) : Sz 9 4 (X1 + (X2 - X1) * Rat.divInt s r) :=
  a1.add ((sub62 a2 a1).mul (sz_div (k := 1) (j := 1) r0 hs hr) (Nat.le_refl 7) (Nat.le_refl 3)) (by decide) (by decide) (by decide)
theorem al_10 {X1 X2 : Rat} {s r : Int} (a1 : Sz 4 1 X1) (a2 : Sz 4 1 X2) (r0 : r ≠ 0) (hs : s.natAbs ≤ 10 ^ 2) (hr : r.natAbs ≤ 10) : Sz 10 4 (X1 + (X2 - X1) * Rat.divInt s r) :=
  a1.add ((sub62 a2 a1).mul (sz_div (k := 2) (j := 1) r0 hs hr) (Nat.le_refl 8) (Nat.le_refl 3)) (by decide) (by decide) (by decide)
theorem be_12 {X1 X2 X3 : Rat} (a1 : Sz 4 1 X1) (a2 : Sz 4 1 X2) (a3 : Sz 9 4 X3) : Dq (X3 + (X2 - X1)) := a3.add (sub62 a2 a1) (by decide) (by decide) (by decide)
theorem al_ne {X1 Y1 X2 Y2 : Rat} (ne : ¬ (X1 = X2 ∧ Y1 = Y2)) {s r : Int} (h1 : -4 ≤ s) (h2 : s ≤ 4) (h3 : 1 ≤ r) (h4 : r ≤ 3) :
    ¬ (X1 + (X2 - X1) * Rat.divInt s 2 = X1 + (X2 - X1) * Rat.divInt 5 r ∧ Y1 + (Y2 - Y1) * Rat.divInt s 2 = Y1 + (Y2 - Y1) * Rat.divInt 5 r) := by
  have hq : Rat.divInt s 2 - Rat.divInt 5 r ≠ 0 := fun z => by
    have e : Rat.divInt s 2 = Rat.divInt 5 r := by grind
    have e2 := (Rat.divInt_eq_divInt_iff (by decide) (by omega)).mp e
    have : r = 1 ∨ r = 2 ∨ r = 3 := by omega
    rcases this with rfl | rfl | rfl <;> omega
  generalize Rat.divInt s 2 = u at *
  generalize Rat.divInt 5 r = v at *
  rintro ⟨e1, e2⟩
  exact ne ⟨by grind, by grind⟩
theorem wd_small {i : Int} (h : i.natAbs ≤ 10 ^ 2) : Wd i := wd_of h (by decide)
theorem lst_ne {H : Hp} {D b : Addr} {xs : List V} {o : HO} (hD : H D = some (.lst xs)) (h : H b = some o) (no : ∀ ys, o ≠ .lst ys) : b ≠ D := fun z => by
  rw [z, hD] at h
  exact no xs (Option.some.inj h).symm
theorem Tabs.over {T : List (Addr × Str)} {D : Addr} {H : Hp} {xs ys : List V} (t : Tabs T H) (hD : H D = some (.lst xs)) : Tabs T (upd H D (.lst ys)) := fun x hx => by
  obtain ⟨ps, h1, h2, h3⟩ := t x hx
  refine ⟨ps, by rw [upd_ne (lst_ne hD h1 fun _ z => nomatch z)]; exact h1, h2, fun ps cv hc => ?_⟩
  obtain ⟨y, e1, e2⟩ := h3 ps cv hc
  exact ⟨y, e1, by rw [upd_ne (lst_ne hD e2 fun _ => codeO_no)]; exact e2⟩
theorem dots_eqv {x1 y1 d1 x2 y2 d2 x3 y3 d3 x4 y4 d4 : Int} : PyData.eqv (.tuple [dotD x1 y1 d1, dotD x2 y2 d2]) (.tuple [dotD x3 y3 d3, dotD x4 y4 d4]) = decide ((x1 = x3 ∧ y1 = y3 ∧ d1 = d3) ∧ (x2 = x4 ∧ y2 = y4 ∧ d2 = d4)) := by
  have h1 := dot_eqv (x := x1) (y := y1) (d := d1) (x' := x3) (y' := y3) (d' := d3)
  have h2 := dot_eqv (x := x2) (y := y2) (d := d2) (x' := x4) (y' := y4) (d' := d4)
  show (PyData.eqv (dotD x1 y1 d1) (dotD x3 y3 d3) && (PyData.eqv (dotD x2 y2 d2) (dotD x4 y4 d4) && true)) = _
  rw [h1, h2, Bool.and_true, Bool.eq_iff_iff]
  simp
theorem dots_shaped {x1 y1 d1 x2 y2 d2 : Int} : SeqAt.shaped (.tuple [dotD x1 y1 d1, dotD x2 y2 d2]) = true := rfl
theorem LnQ.by {C CP CL : Addr} {H H' : Hp} {z : V} {X1 Y1 X2 Y2 : Rat} (f : ∀ b C dx fs, H b = some (.ins C dx fs) → H' b = some (.ins C dx fs)) (h : LnQ C CP CL H z X1 Y1 X2 Y2) : LnQ C CP CL H' z X1 Y1 X2 Y2 := by
  obtain ⟨b, dx, v, w, e, h1, ⟨b1, d1, x1, y1, e1, g1, ⟨i1, j1, k1, l1⟩, ⟨i2, j2, k2, l2⟩⟩, ⟨b3, d3, x3, y3, e3, g3, ⟨i3, j3, k3, l3⟩, ⟨i4, j4, k4, l4⟩⟩⟩ := h
  exact ⟨b, dx, v, w, e, f _ _ _ _ h1, ⟨b1, d1, x1, y1, e1, f _ _ _ _ g1, ⟨i1, j1, k1, f _ _ _ _ l1⟩, ⟨i2, j2, k2, f _ _ _ _ l2⟩⟩, ⟨b3, d3, x3, y3, e3, f _ _ _ _ g3, ⟨i3, j3, k3, f _ _ _ _ l3⟩, ⟨i4, j4, k4, f _ _ _ _ l4⟩⟩⟩
theorem LnQ.go {C CP CL p : Addr} {k j : Nat} {H H' : Hp} {z : V} {X1 Y1 X2 Y2 : Rat} (h : LnQ C CP CL H z X1 Y1 X2 Y2) (pt : PotAt H p k) (g : Go p j H H') : LnQ C CP CL H' z X1 Y1 X2 Y2 := h.by fun b C dx fs e => g.at e fun z => by
  obtain ⟨_, _, _, f, _⟩ := pt
  rw [z, f] at e
  cases e
theorem extN_over {H H' : Hp} {D : Addr} {o : HO} (e : ExtN H H') (n : H D = none) : ExtN H (upd H' D o) := fun b o' z t => by
  rw [upd_ne (ne_of_none z n)]
  exact e b o' z t
/-- what stands once the lines are made -/
structure FS (a : Ad) (p : Addr) (k : Nat) (Ph Po : Addr) (H0 : Hp) (w1 w2 v1 v2 v3 v4 : V) (X1 Y1 X2 Y2 X3 Y3 X4 Y4 : Rat) (H : Hp) : Prop where
  pt : PotAt H p k
  kp : Kp p H0 H
  tb : Tabs (TT Ph Po) H
  L1 : LnQ a.Ratio a.Point a.Line H w1 X1 Y1 X2 Y2
  L2 : LnQ a.Ratio a.Point a.Line H w2 X3 Y3 X4 Y4
  s1 : SpAt H v1 X1 Y1
  s2 : SpAt H v2 X2 Y2
  s3 : SpAt H v3 X3 Y3
  s4 : SpAt H v4 X4 Y4
section
variable {a : Ad} {p : Addr} {k : Nat} {Ph Po : Addr} {H0 : Hp} {w1 w2 v1 v2 v3 v4 : V} {X1 Y1 X2 Y2 X3 Y3 X4 Y4 : Rat} {H H' : Hp}
theorem FS.same (S : Same H H') (f : FS a p k Ph Po H0 w1 w2 v1 v2 v3 v4 X1 Y1 X2 Y2 X3 Y3 X4 Y4 H) : FS a p k Ph Po H0 w1 w2 v1 v2 v3 v4 X1 Y1 X2 Y2 X3 Y3 X4 Y4 H' :=
  ⟨f.pt.same S, f.kp.trans (Kp.same S), Tabs.ext f.tb S, f.L1.same S, f.L2.same S, f.s1.same S, f.s2.same S, f.s3.same S, f.s4.same S⟩
end
section
variable {X1 Y1 X2 Y2 X3 Y3 X4 Y4 : Rat}
theorem and_B : hq X1 Y1 X2 Y2 X3 Y3 - hq X1 Y1 X2 Y2 X4 Y4 = -crB X1 Y1 X2 Y2 X3 Y3 X4 Y4 := by unfold hq crB; grind
theorem dna_B : hq X3 Y3 X4 Y4 X1 Y1 - hq X3 Y3 X4 Y4 X2 Y2 = crB X1 Y1 X2 Y2 X3 Y3 X4 Y4 := by unfold hq crB; grind
theorem dna_S : hq X3 Y3 X4 Y4 X1 Y1 = crS X1 Y1 X3 Y3 X4 Y4 := by unfold hq crS; grind
theorem poly_X : (X3 - X1) * crB X1 Y1 X2 Y2 X3 Y3 X4 Y4 = (X4 - X3) * hq X1 Y1 X2 Y2 X3 Y3 + (X2 - X1) * crS X1 Y1 X3 Y3 X4 Y4 := by unfold hq crB crS; grind
theorem poly_Y : (Y3 - Y1) * crB X1 Y1 X2 Y2 X3 Y3 X4 Y4 = (Y4 - Y3) * hq X1 Y1 X2 Y2 X3 Y3 + (Y2 - Y1) * crS X1 Y1 X3 Y3 X4 Y4 := by unfold hq crB crS; grind
theorem frac_eq {B h S u v x y : Rat} (hB : B ≠ 0) (e : (x - y) * B = u * h + v * S) : x + u * (h / -B) = y + v * (S / B) := by grind
theorem meet_X (hB : crB X1 Y1 X2 Y2 X3 Y3 X4 Y4 ≠ 0) : X3 + (X4 - X3) * (hq X1 Y1 X2 Y2 X3 Y3 / (hq X1 Y1 X2 Y2 X3 Y3 - hq X1 Y1 X2 Y2 X4 Y4)) = X1 + (X2 - X1) * (crS X1 Y1 X3 Y3 X4 Y4 / crB X1 Y1 X2 Y2 X3 Y3 X4 Y4) := by
  rw [and_B]
  exact frac_eq hB poly_X
theorem meet_Y (hB : crB X1 Y1 X2 Y2 X3 Y3 X4 Y4 ≠ 0) : Y3 + (Y4 - Y3) * (hq X1 Y1 X2 Y2 X3 Y3 / (hq X1 Y1 X2 Y2 X3 Y3 - hq X1 Y1 X2 Y2 X4 Y4)) = Y1 + (Y2 - Y1) * (crS X1 Y1 X3 Y3 X4 Y4 / crB X1 Y1 X2 Y2 X3 Y3 X4 Y4) := by
  rw [and_B]
  exact frac_eq hB poly_Y
variable (d1 : Dq X1) (e1 : Dq Y1) (d2 : Dq X2) (e2 : Dq Y2) (d3 : Dq X3) (e3 : Dq Y3) (d4 : Dq X4) (e4 : Dq Y4)
include d1 e1 d2 e2 d3 e3 d4 e4
theorem crB_sz : Sz 63 48 (crB X1 Y1 X2 Y2 X3 Y3 X4 Y4) := dq_cr (dq_mul (dq_sub d2 d1) (dq_sub e4 e3)) (dq_mul (dq_sub e2 e1) (dq_sub d4 d3))
theorem crS_sz : Sz 63 48 (crS X1 Y1 X3 Y3 X4 Y4) := dq_cr (dq_mul (dq_sub d3 d1) (dq_sub e4 e3)) (dq_mul (dq_sub e3 e1) (dq_sub d4 d3))
theorem h34_sz : Sz 112 96 (hq X1 Y1 X2 Y2 X3 Y3 - hq X1 Y1 X2 Y2 X4 Y4) := (hq_sz d1 e1 d2 e2 d3 e3).sub (hq_sz d1 e1 d2 e2 d4 e4) (by decide) (by decide) (by decide)
theorem aw_of (ne : hq X1 Y1 X2 Y2 X3 Y3 - hq X1 Y1 X2 Y2 X4 Y4 ≠ 0) : AW X3 Y3 X4 Y4 (hq X1 Y1 X2 Y2 X3 Y3) (hq X1 Y1 X2 Y2 X4 Y4) := by
  have s : Sz 159 160 (hq X1 Y1 X2 Y2 X3 Y3 / (hq X1 Y1 X2 Y2 X3 Y3 - hq X1 Y1 X2 Y2 X4 Y4)) := (hq_sz d1 e1 d2 e2 d3 e3).div (h34_sz d1 e1 d2 e2 d3 e3 d4 e4) ne (by decide) (by decide)
  have x := dq_sub d4 d3
  have y := dq_sub e4 e3
  exact ⟨s.mono (by decide) (by decide), x.mono (by decide) (by decide), y.mono (by decide) (by decide), (x.mul s (Nat.le_refl _) (Nat.le_refl _)).mono (by decide) (by decide), (y.mul s (Nat.le_refl _) (Nat.le_refl _)).mono (by decide) (by decide)⟩
theorem mw_of : MW X1 Y1 X2 Y2 X3 Y3 X4 Y4 (crB X1 Y1 X2 Y2 X3 Y3 X4 Y4) (crS X1 Y1 X3 Y3 X4 Y4) where
  a1 := d1.w
  b1 := e1.w
  a2 := d2.w
  b2 := e2.w
  a3 := d3.w
  b3 := e3.w
  a4 := d4.w
  b4 := e4.w
  wx := (dq_sub d2 d1).mono (by decide) (by decide)
  wy := (dq_sub e2 e1).mono (by decide) (by decide)
  ix := (dq_sub d4 d3).mono (by decide) (by decide)
  iy := (dq_sub e4 e3).mono (by decide) (by decide)
  ox := (dq_sub d3 d1).mono (by decide) (by decide)
  oy := (dq_sub e3 e1).mono (by decide) (by decide)
  b := (crB_sz d1 e1 d2 e2 d3 e3 d4 e4).mono (by decide) (by decide)
  s := (crS_sz d1 e1 d2 e2 d3 e3 d4 e4).mono (by decide) (by decide)
  sb := fun ne => ((crS_sz d1 e1 d2 e2 d3 e3 d4 e4).div (m := 111) (i := 111) (crB_sz d1 e1 d2 e2 d3 e3 d4 e4) ne (by decide) (by decide)).mono (by decide) (by decide)
  rx := fun ne => (d1.add (m := 137) (i := 129) ((dq_sub d2 d1).mul (m := 130) (i := 123) ((crS_sz d1 e1 d2 e2 d3 e3 d4 e4).div (m := 111) (i := 111) (crB_sz d1 e1 d2 e2 d3 e3 d4 e4) ne (by decide) (by decide)) (by decide) (by decide)) (by decide) (by decide) (by decide)).mono (by decide) (by decide)
  ry := fun ne => (e1.add (m := 137) (i := 129) ((dq_sub e2 e1).mul (m := 130) (i := 123) ((crS_sz d1 e1 d2 e2 d3 e3 d4 e4).div (m := 111) (i := 111) (crB_sz d1 e1 d2 e2 d3 e3 d4 e4) ne (by decide) (by decide)) (by decide) (by decide)) (by decide) (by decide) (by decide)).mono (by decide) (by decide)
end
theorem mk_ln2 {K : PySem.W.Frag} {C CP CL B x dx : Addr} {H : Hp} {v w : V} {X1 Y1 X2 Y2 : Rat} {E : XK} {P : VK} (hv : PtQ C CP H v X1 Y1) (hw : PtQ C CP H w X2 Y2) (ne : ¬ (X1 = X2 ∧ Y1 = Y2)) (hx : H x = none) (hdx : H dx = none) (n : dx ≠ x) (q : ∀ H', Same H H' → LnQ C CP CL H' (.ref x) X1 Y1 X2 Y2 → P .non H') :
    spLInit K C CP CL B [.ref x, v, w] (upd (upd H dx (.own x)) x (.ins CL dx [])) P E := by
  have S : Same H (upd (upd H dx (.own x)) x (.ins CL dx [])) := fun b o e => by
    rw [upd_ne (ne_of_none e hx), upd_ne (ne_of_none e hdx)]
    exact e
  exact ⟨x, dx, v, w, rfl, upd_same, .inl ⟨X1, Y1, X2, Y2, hv.same S, hw.same S, ne, fun H' k l => q H' (fun b o e => k b o (ne_of_none e hx) (S b o e)) l⟩⟩
section
variable {P : Program} {w : World} {K : PySem.W.Frag} {mg : Str → Option Value} {base : Heap} {a : Ad} {Ph Po : Addr}
theorem ok__law_right {fd : FuncData} (F : Fun K "_law_right" "_law_right" s__law_right a._law_right fd) (T : Txt K mg a)
    {fd_Line___eq__ : FuncData} (G_Line___eq__ : FnOk P w K mg base CX0 5 a.Line___eq__ fd_Line___eq__ ["self", "other"] (spLEq K a.Ratio a.Point a.Line)) (b_Line___eq__ : Binds K fd_Line___eq__ ["self", "other"] [])
    {fd_Line___init__ : FuncData} (G_Line___init__ : FnOk P w K mg base (L2.CX P w) 6 a.Line___init__ fd_Line___init__ ["self", "one", "other"] (spLInit K a.Ratio a.Point a.Line a.BadPoint)) (b_Line___init__ : Binds K fd_Line___init__ ["self", "one", "other"] [])
    {fd__law_made_point : FuncData} (G__law_made_point : Fn P w K mg base CX0 8 a._law_made_point fd__law_made_point ["_law_dot"] (spMadeP a.Ratio a.Point)) (b__law_made_point : Binds K fd__law_made_point ["_law_dot"] [])
    {fd_Point___eq__ : FuncData} (G_Point___eq__ : FnOk P w K mg base CX0 4 a.Point___eq__ fd_Point___eq__ ["self", "other"] (spPEq K a.Ratio a.Point)) (b_Point___eq__ : Binds K fd_Point___eq__ ["self", "other"] [])
    {fd__law_spot_of : FuncData} (G__law_spot_of : Fn P w K mg base CX0 3 a._law_spot_of fd__law_spot_of ["_law_point"] (spSpotOf a.Ratio a.Point)) (b__law_spot_of : Binds K fd__law_spot_of ["_law_point"] [])
    {fd__law_meets : FuncData} (G__law_meets : Fn P w K mg base CX0 5 a._law_meets fd__law_meets ["_law_one", "_law_other", "_law_third", "_law_fourth"] spMeets) (b__law_meets : Binds K fd__law_meets ["_law_one", "_law_other", "_law_third", "_law_fourth"] [])
    {fd_Line___and__ : FuncData} (G_Line___and__ : FnOk P w K mg base CX0 10 a.Line___and__ fd_Line___and__ ["self", "other"] (spAnd a.Ratio a.Point a.Line)) (b_Line___and__ : Binds K fd_Line___and__ ["self", "other"] [])
    {fd__law_is_height : FuncData} (G__law_is_height : Fn P w K mg base CX0 14 a._law_is_height fd__law_is_height ["_law_made", "_law_one", "_law_other", "_law_dot"] (spHt a.Ratio a.Point a.Line Ph Po)) (b__law_is_height : Binds K fd__law_is_height ["_law_made", "_law_one", "_law_other", "_law_dot"] [])
    {fd__law_along : FuncData} (G__law_along : Fn P w K mg base CX0 4 a._law_along fd__law_along ["_law_one", "_law_other", "_law_share"] spAlong) (b__law_along : Binds K fd__law_along ["_law_one", "_law_other", "_law_share"] [])
    {fd__law_take : FuncData} (G__law_take : Fn P w K mg base CX0 1 a._law_take fd__law_take ["_law_pot_here", "_law_upto"] spTake) (b__law_take : Binds K fd__law_take ["_law_pot_here", "_law_upto"] [])
    {fd__law_beside : FuncData} (G__law_beside : Fn P w K mg base CX0 3 a._law_beside fd__law_beside ["_law_one", "_law_other", "_law_third"] spBeside) (b__law_beside : Binds K fd__law_beside ["_law_one", "_law_other", "_law_third"] [])
    {fd__law_other_spot : FuncData} (G__law_other_spot : Fn P w K mg base CX0 4 a._law_other_spot fd__law_other_spot ["_law_pot_here", "_law_dot"] spOther) (b__law_other_spot : Binds K fd__law_other_spot ["_law_pot_here", "_law_dot"] [])
    {fd__law_spot_near : FuncData} (G__law_spot_near : Fn P w K mg base CX0 3 a._law_spot_near fd__law_spot_near ["_law_pot_here"] spNear) (b__law_spot_near : Binds K fd__law_spot_near ["_law_pot_here"] []) :
    Fn P w K mg base CX0 16 a._law_right fd ["_law_pot_here"] (spRi Ph Po) := by
  refine ok F sc__law_right (fun vs H Q E h => ?len) (fun cdv A outer s H vs Q E hq hr h => ⟨_,
      (pss_cons (ps_asg (pe_tup (pa_cons (pe_fn G__law_spot_near hq (hr.mono (by omega)) (by rfl) T.g__law_spot_near T.k__law_spot_near b__law_spot_near .nil pass0 (pa_cons (pv 0) pa_nil)) (pa_cons (pe_fn G__law_spot_near hq (hr.mono (by omega)) (by rfl) T.g__law_spot_near T.k__law_spot_near b__law_spot_near .nil pass0 (pa_cons (pv 0) pa_nil)) pa_nil))) (pg_tup rfl (pgs_cons (pg_name (i := 1) sc__law_right.nd rfl (Or.inr rfl)) (pgs_cons (pg_name (i := 2) sc__law_right.nd rfl (Or.inl rfl)) pgs_nil))))
      (pss_cons (ps_asg (pe_tup (pa_cons (pe_fn G__law_other_spot hq (hr.mono (by omega)) (by rfl) T.g__law_other_spot T.k__law_other_spot b__law_other_spot .nil pass0 (pa_cons (pv 0) (pa_cons (pv 1) pa_nil))) (pa_cons (pe_fn G__law_other_spot hq (hr.mono (by omega)) (by rfl) T.g__law_other_spot T.k__law_other_spot b__law_other_spot .nil pass0 (pa_cons (pv 0) (pa_cons (pv 2) pa_nil))) pa_nil))) (pg_tup rfl (pgs_cons (pg_name (i := 3) sc__law_right.nd rfl (Or.inr rfl)) (pgs_cons (pg_name (i := 4) sc__law_right.nd rfl (Or.inl rfl)) pgs_nil))))
      (Evl.pss_cut (ps_if (pt_cmpR op_eq (pe_fn G__law_take hq (hr.mono (by omega)) (by rfl) T.g__law_take T.k__law_take b__law_take .nil pass0 (pa_cons (pv 0) (pa_cons pe_int pa_nil))) pe_int (nomark _)) (pss_cons (ps_set (i := 2) sc__law_right.nd rfl (Or.inl rfl) (pe_fn G__law_along hq (hr.mono (by omega)) (by rfl) T.g__law_along T.k__law_along b__law_along .nil pass0 (pa_cons (pv 1) (pa_cons (pv 3) (pa_cons (pe_tup (pa_cons (pe_op op_sub (pe_fn G__law_take hq (hr.mono (by omega)) (by rfl) T.g__law_take T.k__law_take b__law_take .nil pass0 (pa_cons (pv 0) (pa_cons pe_int pa_nil))) pe_int) (pa_cons pe_int pa_nil))) pa_nil)))))
      (pss_one (ps_set (i := 4) sc__law_right.nd rfl (Or.inl rfl) (pe_fn G__law_along hq (hr.mono (by omega)) (by rfl) T.g__law_along T.k__law_along b__law_along .nil pass0 (pa_cons (pv 1) (pa_cons (pv 3) (pa_cons (pe_tup (pa_cons pe_int (pa_cons (pe_op op_add pe_int (pe_fn G__law_take hq (hr.mono (by omega)) (by rfl) T.g__law_take T.k__law_take b__law_take .nil pass0 (pa_cons (pv 0) (pa_cons pe_int pa_nil)))) pa_nil))) pa_nil))))))) pss_nil)
      (Evl.pss_cut (ps_if (pt_cmpR op_eq (pe_fn G__law_take hq (hr.mono (by omega)) (by rfl) T.g__law_take T.k__law_take b__law_take .nil pass0 (pa_cons (pv 0) (pa_cons pe_int pa_nil))) pe_int (nomark _)) (pss_one (ps_set (i := 4) sc__law_right.nd rfl (Or.inl rfl) (pe_fn G__law_beside hq (hr.mono (by omega)) (by rfl) T.g__law_beside T.k__law_beside b__law_beside .nil pass0 (pa_cons (pv 1) (pa_cons (pv 3) (pa_cons (pv 2) pa_nil)))))) pss_nil)
      (pss_cons (ps_set (i := 5) sc__law_right.nd rfl (Or.inr rfl) (pe_make T.m_Line G_Line___init__ (hr.mono (by omega)) (by rfl) T.g_Line b_Line___init__ .nil passF (pa_cons (pe_fn G__law_made_point hq (hr.mono (by omega)) (by rfl) T.g__law_made_point T.k__law_made_point b__law_made_point .nil pass0 (pa_cons (pv 1) pa_nil)) (pa_cons (pe_fn G__law_made_point hq (hr.mono (by omega)) (by rfl) T.g__law_made_point T.k__law_made_point b__law_made_point .nil pass0 (pa_cons (pv 3) pa_nil)) pa_nil))))
      (pss_cons (ps_set (i := 6) sc__law_right.nd rfl (Or.inl rfl) (pe_make T.m_Line G_Line___init__ (hr.mono (by omega)) (by rfl) T.g_Line b_Line___init__ .nil passF (pa_cons (pe_fn G__law_made_point hq (hr.mono (by omega)) (by rfl) T.g__law_made_point T.k__law_made_point b__law_made_point .nil pass0 (pa_cons (pv 2) pa_nil)) (pa_cons (pe_fn G__law_made_point hq (hr.mono (by omega)) (by rfl) T.g__law_made_point T.k__law_made_point b__law_made_point .nil pass0 (pa_cons (pv 4) pa_nil)) pa_nil))))
      (pss_cons (ps_if (PW.pt (pw_or (pt_not (pt_cmpR (op_eqK T.eqp (fnR G_Point___eq__ b_Point___eq__) (hr.mono (by omega)) pass0) (pe_fld (pv 5) rfl) (pe_fn G__law_made_point hq (hr.mono (by omega)) (by rfl) T.g__law_made_point T.k__law_made_point b__law_made_point .nil pass0 (pa_cons (pv 1) pa_nil)) (nomark _))) (pw_or1 (pt_not (pt_cmpR (op_eqK T.eqp (fnR G_Point___eq__ b_Point___eq__) (hr.mono (by omega)) pass0) (pe_fld (pv 5) rfl) (pe_fn G__law_made_point hq (hr.mono (by omega)) (by rfl) T.g__law_made_point T.k__law_made_point b__law_made_point .nil pass0 (pa_cons (pv 3) pa_nil)) (nomark _)))))) (pss_one (ps_ret pe_bl)) pss_nil)
      (pss_cons (ps_set (i := 7) sc__law_right.nd rfl (Or.inl rfl) (pe_lstS (pa_cons (pv 1) (pa_cons (pv 3) (pa_cons (pv 2) (pa_cons (pv 4) (pa_cons (pe_fn G__law_along hq (hr.mono (by omega)) (by rfl) T.g__law_along T.k__law_along b__law_along .nil pass0 (pa_cons (pv 1) (pa_cons (pv 3) (pa_cons (pe_tup (pa_cons (pe_op op_sub (pe_fn G__law_take hq (hr.mono (by omega)) (by rfl) T.g__law_take T.k__law_take b__law_take .nil pass0 (pa_cons (pv 0) (pa_cons pe_int pa_nil))) pe_int) (pa_cons (pe_op op_add pe_int (pe_fn G__law_take hq (hr.mono (by omega)) (by rfl) T.g__law_take T.k__law_take b__law_take .nil pass0 (pa_cons (pv 0) (pa_cons pe_int pa_nil)))) pa_nil))) pa_nil)))) pa_nil)))))))
      (pss_cons (ps_if (pt_not (pt_val (pe_callB (cr_all rfl) (by rfl) T.n_all (by decide +kernel) (pa_cons (pe_lc (own := [("_law_dot", 11)]) (g := gName 11) (tt := tYes) rfl sc__law_right.nd (pi_list (pv 7)) (blkOk_by (own := [("_law_dot", 11)]) (N := ["_law_pot_here", "_law_one", "_law_third", "_law_other", "_law_fourth", "_law_first", "_law_second", "_law_some", "_law_met", "_law_its", "_law_due", "_law_dot"]) (sc := defScope s__law_right) (by decide +kernel)) (fun _ _ _ _ _ => (pg_name (i := 11) sc__law_right.nd rfl (Or.inl rfl))) (fun _ _ _ _ _ => pts_nil) (fun _ _ _ _ _ => (pe_fn G__law_is_height hq (hr.mono (by omega)) (by rfl) T.g__law_is_height T.k__law_is_height b__law_is_height .nil pass0 (pa_cons (pv 5) (pa_cons (pv 1) (pa_cons (pv 3) (pa_cons (pv 11) pa_nil))))))) pa_nil)))) (pss_one (ps_ret pe_bl)) pss_nil)
      (Evl.pss_cut (ps_par (i := 8) (j := 9) (by rfl) sc__law_right.nd rfl rfl (by decide) rfl rfl (pa_cons (pe_op (op_binS T.oA (fnR G_Line___and__ b_Line___and__) (hr.mono (by omega)) pass0) (pv 5) (pv 6)) (pa_cons (pe_op (op_binS T.oA (fnR G_Line___and__ b_Line___and__) (hr.mono (by omega)) pass0) (pv 6) (pv 5)) pa_nil)) (by rfl))
      (Evl.pss_cut (ps_set (i := 10) sc__law_right.nd rfl (Or.inl rfl) (pe_fn G__law_meets hq (hr.mono (by omega)) (by rfl) T.g__law_meets T.k__law_meets b__law_meets .nil pass0 (pa_cons (pv 1) (pa_cons (pv 3) (pa_cons (pv 2) (pa_cons (pv 4) pa_nil))))))
      (Evl.pss_cut (ps_if (PW.pt (pw_and (pt_cmpR op_isN (pv 10) pe_non (nomark _)) (pw_and1 (PW.pt (pw_or (pt_cmpR op_notN (pv 8) pe_non (nomark _)) (pw_or1 (pt_cmpR op_notN (pv 9) pe_non (nomark _)))))))) (pss_one (ps_ret pe_bl)) pss_nil)
      (Evl.pss_cut (ps_if (PW.pt (pw_and (pt_cmpR op_notN (pv 10) pe_non (nomark _)) (pw_and1 (pt_not (PW.pt (pw_and (pt_val (pe_callB call_isi (by rfl) T.n_isinstance (by decide +kernel) (pa_cons (pv 8) (pa_cons (pe_glob (v := .ref a.Point) (by rfl) T.g_Point rfl) pa_nil)))) (pw_and (pt_cmpR (op_eqD hr.units) (pe_fn G__law_spot_of hq (hr.mono (by omega)) (by rfl) T.g__law_spot_of T.k__law_spot_of b__law_spot_of .nil pass0 (pa_cons (pv 8) pa_nil)) (pv 10) (nomark _)) (pw_and1 (pt_cmpR (op_eqK T.eqp (fnR G_Point___eq__ b_Point___eq__) (hr.mono (by omega)) pass0) (pv 9) (pv 8) (nomark _)))))))))) (pss_one (ps_ret pe_bl)) pss_nil)
      (pss_cons (ps_if (PW.pt (pw_or (pt_cmpR op_ne (pe_cmpR (op_eqK T.eql (fnR G_Line___eq__ b_Line___eq__) (hr.mono (by omega)) pass0) (pv 5) (pv 6) (nomark _)) (pe_cmpR (op_eqD hr.units) (pe_tup (pa_cons (pv 1) (pa_cons (pv 3) pa_nil))) (pe_tup (pa_cons (pv 2) (pa_cons (pv 4) pa_nil))) (nomark _)) (nomark _)) (pw_or1 (pt_cmpR (op_eqK T.eql (fnR G_Line___eq__ b_Line___eq__) (hr.mono (by omega)) pass0) (pv 5) (pe_make T.m_Line G_Line___init__ (hr.mono (by omega)) (by rfl) T.g_Line b_Line___init__ .nil passF (pa_cons (pe_fld (pv 5) rfl) (pa_cons (pe_fld (pv 5) rfl) pa_nil))) (nomark _))))) (pss_one (ps_ret pe_bl)) pss_nil)
      (pss_one (ps_ret (pe_and (pe_cmpR (op_eqK T.eql (fnR G_Line___eq__ b_Line___eq__) (hr.mono (by omega)) pass0) (pv 5) (pe_make T.m_Line G_Line___init__ (hr.mono (by omega)) (by rfl) T.g_Line b_Line___init__ .nil passF (pa_cons (pe_fn G__law_made_point hq (hr.mono (by omega)) (by rfl) T.g__law_made_point T.k__law_made_point b__law_made_point .nil pass0 (pa_cons (pv 1) pa_nil)) (pa_cons (pe_fn G__law_made_point hq (hr.mono (by omega)) (by rfl) T.g__law_made_point T.k__law_made_point b__law_made_point .nil pass0 (pa_cons (pv 3) pa_nil)) pa_nil))) (nomark _)) (pe_one (pe_not (pe_cmpR (op_eqK T.eql (fnR G_Line___eq__ b_Line___eq__) (hr.mono (by omega)) pass0) (pv 5) (pe_fld (pv 5) rfl) (nomark _))))))))))))))))))))), ?body⟩)
  case len => obtain ⟨p, k, rfl, _⟩ := h; rfl
  case body =>
    obtain ⟨p, k, rfl, pot, hk, tabs, q⟩ := h
    refine ⟨_, rfl, p, k, rfl, pot, by omega, fun z1 H1 X1 Y1 g1 r1 a1 b1 => ?_⟩
    refine ⟨_, rfl, p, k + 4, rfl, g1.pot, by omega, fun z3 H2 X3 Y3 g2 r3 a3 b3 => ?_⟩
    refine ⟨(by show 2 ≤ sizeLine; decide), fun t3 f3 => ⟨t3, _, rfl, SqT.of upd_same, rfl, _, _, rfl, _, _, rfl, rfl, ?_⟩⟩
    have S3 := same_new (o := .tup [z1, z3]) f3
    have g3 : Go p (k + 8) H (upd H2 t3 (.tup [z1, z3])) := (g1.trans g2).ex S3
    replace r1 := (r1.go g1.pot g2).same S3
    replace r3 := r3.same S3
    generalize upd H2 t3 (.tup [z1, z3]) = H3 at g3 r1 r3 ⊢
    refine ⟨_, rfl, _, rfl, p, k + 8, z1, X1, Y1, rfl, g3.pot, by omega, r1, a1, b1, fun z2 H4 X2 Y2 g4 r2 a2 b2 n12 => ?_⟩
    replace r1 := r1.go g3.pot g4
    replace r3 := r3.go g3.pot g4
    refine ⟨_, rfl, _, rfl, p, k + 12, z3, X3, Y3, rfl, g4.pot, by omega, r3, a3, b3, fun z4 H5 X4 Y4 g5 r4 a4 b4 n34 => ?_⟩
    replace r1 := r1.go g4.pot g5
    replace r2 := r2.go g4.pot g5
    replace r3 := r3.go g4.pot g5
    refine ⟨(by show 2 ≤ sizeLine; decide), fun t6 f6 => ⟨t6, _, rfl, SqT.of upd_same, rfl, _, _, rfl, _, _, rfl, rfl, ?_⟩⟩
    have S6 := same_new (o := .tup [z2, z4]) f6
    have g6 : Go p (k + 16) H (upd H5 t6 (.tup [z2, z4])) := ((g3.trans g4).trans g5).ex S6
    have st0 : RS p (k + 16) Ph Po H (upd H5 t6 (.tup [z2, z4])) z1 z2 z3 z4 X1 Y1 X2 Y2 X3 Y3 X4 Y4 :=
      ⟨g6, Tabs.go g6 pot tabs, r1.same S6, r2.same S6, r3.same S6, r4.same S6, a1.mono (by decide) (by decide), b1.mono (by decide) (by decide), a2, b2, a3.mono (by decide) (by decide), b3.mono (by decide) (by decide), a4.mono (by decide) (by decide), b4.mono (by decide) (by decide), n12, n34⟩
    generalize upd H5 t6 (.tup [z2, z4]) = H6 at st0 ⊢
    clear r1 r2 r3 r4 g6 a1 b1 a2 b2 a3 b3 a4 b4 n12 n34 g1 g2 g3 g4 g5 S3 S6 f3 f6
    refine ⟨fun σ' H' => ∃ v3 v4 X3 Y3 X4 Y4, σ' = [some (.ref p), some z1, some v3, some z2, some v4, none, none, none, none, none, none, none] ∧ RS p (k + 19) Ph Po H H' z1 z2 v3 v4 X1 Y1 X2 Y2 X3 Y3 X4 Y4, ?first, ?rest⟩
    case first =>
      refine ⟨_, rfl, p, 3, k + 16, rfl, st0.go.pot, by omega, by decide, by decide, fun d7 H7 c7 e7 g7 => ⟨rfl, _, rfl, ite2 (fun c => ?_) (fun c => ?_)⟩⟩
      · have P6 := st0.go.pot
        have r1 := st0.s1.go P6 g7
        have r2 := st0.s2.go P6 g7
        refine ⟨_, rfl, _, rfl, _, rfl, p, 9, k + 17, rfl, g7.pot, by omega, by decide, by decide, fun d8 H8 c8 e8 g8 => ⟨_, _, rfl, rfl, (by show 2 ≤ sizeLine; decide), fun t9 f9 => ?_⟩⟩
        have S9 := same_new (o := .tup [.int (d8 - 4), .int 2]) f9
        have h9 : upd H8 t9 (.tup [.int (d8 - 4), .int 2]) t9 = some (.tup [.int (d8 - 4), .int 2]) := upd_same
        have G9 : Go p (k + 18) H (upd H8 t9 (.tup [.int (d8 - 4), .int 2])) := ((st0.go.trans g7).trans g8).ex S9
        replace r1 := (r1.go g7.pot g8).same S9
        replace r2 := (r2.go g7.pot g8).same S9
        generalize upd H8 t9 (.tup [.int (d8 - 4), .int 2]) = H9 at r1 r2 h9 G9 S9 ⊢
        have n8 : (d8 - 4).natAbs ≤ 10 := by omega
        refine ⟨z1, z2, .ref t9, X1, Y1, X2, Y2, d8 - 4, 2, rfl, r1, r2, ⟨t9, rfl, h9⟩, by decide, wd_small (by omega), wd_small (by omega), st0.a1.w (by decide) (by decide), st0.b1.w (by decide) (by decide), st0.a2.w (by decide) (by decide), st0.b2.w (by decide) (by decide), (sub62 st0.a2 st0.a1).w (by decide) (by decide), (sub62 st0.b2 st0.b1).w (by decide) (by decide), (al_9 st0.a1 st0.a2 (by decide) n8 (by decide)).w (by decide) (by decide), (al_9 st0.b1 st0.b2 (by decide) n8 (by decide)).w (by decide) (by decide), fun v3 H10 S10 r3 => ?_⟩
        have G10 := G9.ex S10
        replace r1 := r1.same S10
        replace r2 := r2.same S10
        refine ⟨_, rfl, _, rfl, _, rfl, p, 3, k + 18, rfl, G10.pot, by omega, by decide, by decide, fun d11 H11 c11 e11 g11 => ⟨_, _, rfl, rfl, (by show 2 ≤ sizeLine; decide), fun t12 f12 => ?_⟩⟩
        have S12 := same_new (o := .tup [.int 5, .int (1 + d11)]) f12
        have h12 : upd H11 t12 (.tup [.int 5, .int (1 + d11)]) t12 = some (.tup [.int 5, .int (1 + d11)]) := upd_same
        have G12 : Go p (k + 19) H (upd H11 t12 (.tup [.int 5, .int (1 + d11)])) := (G10.trans g11).ex S12
        replace r1 := (r1.go G10.pot g11).same S12
        replace r2 := (r2.go G10.pot g11).same S12
        replace r3 := (r3.go G10.pot g11).same S12
        generalize upd H11 t12 (.tup [.int 5, .int (1 + d11)]) = H12 at r1 r2 r3 h12 G12 S12 ⊢
        have n11 : (1 + d11).natAbs ≤ 10 := by omega
        have z11 : 1 + d11 ≠ 0 := by omega
        refine ⟨z1, z2, .ref t12, X1, Y1, X2, Y2, 5, 1 + d11, rfl, r1, r2, ⟨t12, rfl, h12⟩, z11, wd_small (by omega), wd_small (by omega), st0.a1.w (by decide) (by decide), st0.b1.w (by decide) (by decide), st0.a2.w (by decide) (by decide), st0.b2.w (by decide) (by decide), (sub62 st0.a2 st0.a1).w (by decide) (by decide), (sub62 st0.b2 st0.b1).w (by decide) (by decide), (al_9 st0.a1 st0.a2 z11 (by decide) n11).w (by decide) (by decide), (al_9 st0.b1 st0.b2 z11 (by decide) n11).w (by decide) (by decide), fun v4 H13 S13 r4 => ?_⟩
        exact ⟨v3, v4, _, _, _, _, rfl, G12.ex S13, Tabs.go (G12.ex S13) pot tabs, r1.same S13, r2.same S13, r3.same S13, r4, st0.a1, st0.b1, st0.a2, st0.b2, al_9 st0.a1 st0.a2 (by decide) n8 (by decide), al_9 st0.b1 st0.b2 (by decide) n8 (by decide), (al_9 st0.a1 st0.a2 z11 (by decide) n11).mono (by decide) (by decide), (al_9 st0.b1 st0.b2 z11 (by decide) n11).mono (by decide) (by decide), st0.n12, al_ne st0.n12 (by omega) (by omega) (by omega) (by omega)⟩
      · have P6 := st0.go.pot
        have G7 := st0.go.trans g7
        exact ⟨_, _, X3, Y3, X4, Y4, rfl, (st0.go.trans g7).mono (by omega), Tabs.go g7 P6 st0.tb, st0.s1.go P6 g7, st0.s2.go P6 g7, st0.s3.go P6 g7, st0.s4.go P6 g7, st0.a1, st0.b1, st0.a2, st0.b2, st0.a3, st0.b3, st0.a4, st0.b4, st0.n12, st0.n34⟩
    case rest =>
      rintro σ' H7 ⟨v3, v4, X3, Y3, X4, Y4, rfl, st⟩
      clear st0
      refine ⟨fun σ' H' => ∃ v4 X4 Y4, σ' = [some (.ref p), some z1, some v3, some z2, some v4, none, none, none, none, none, none, none] ∧ RS p (k + 20) Ph Po H H' z1 z2 v3 v4 X1 Y1 X2 Y2 X3 Y3 X4 Y4, ?first, ?rest⟩
      case first =>
        refine ⟨_, rfl, p, 4, k + 19, rfl, st.go.pot, by omega, by decide, by decide, fun d8 H8 c8 e8 g8 => ⟨rfl, _, rfl, ite2 (fun c => ?_) (fun c => ?_)⟩⟩
        · have P7 := st.go.pot
          have r1 := st.s1.go P7 g8
          have r2 := st.s2.go P7 g8
          have r3 := st.s3.go P7 g8
          refine ⟨_, rfl, _, rfl, _, rfl, z1, z2, v3, X1, Y1, X2, Y2, X3, Y3, rfl, r1, r2, r3, st.a1.w (by decide) (by decide), st.b1.w (by decide) (by decide), st.a2.w (by decide) (by decide), st.b2.w (by decide) (by decide), st.a3.w (by decide) (by decide), st.b3.w (by decide) (by decide), fun v4 H9 S9 r4 => ?_⟩
          have G9 := (st.go.trans g8).ex S9
          refine ⟨v4, _, _, rfl, G9, Tabs.go G9 pot tabs, r1.same S9, r2.same S9, r3.same S9, r4, st.a1, st.b1, st.a2, st.b2, st.a3, st.b3, be_12 st.a1 st.a2 st.a3, be_12 st.b1 st.b2 st.b3, st.n12, fun z => st.n12 ⟨?_, ?_⟩⟩
          · have := z.1
            grind
          · have := z.2
            grind
        · have P7 := st.go.pot
          have G8 := st.go.trans g8
          exact ⟨v4, X4, Y4, rfl, G8, Tabs.go G8 pot tabs, st.s1.go P7 g8, st.s2.go P7 g8, st.s3.go P7 g8, st.s4.go P7 g8, st.a1, st.b1, st.a2, st.b2, st.a3, st.b3, st.a4, st.b4, st.n12, st.n34⟩
      case rest =>
        rintro σ' H8 ⟨v4, X4, Y4, rfl, st⟩
        have D1 : Dq X1 := st.a1.mono (by decide) (by decide)
        have E1 : Dq Y1 := st.b1.mono (by decide) (by decide)
        have D2 : Dq X2 := st.a2.mono (by decide) (by decide)
        have E2 : Dq Y2 := st.b2.mono (by decide) (by decide)
        have D3 : Dq X3 := st.a3.mono (by decide) (by decide)
        have E3 : Dq Y3 := st.b3.mono (by decide) (by decide)
        have D4 := st.a4
        have E4 := st.b4
        -- the lines
        refine ⟨_, rfl, _, X1, Y1, rfl, st.s1, D1.w, E1.w, fun q1 H9 S9 pt1 => ?_⟩
        refine ⟨_, rfl, _, X2, Y2, rfl, st.s2.same S9, D2.w, E2.w, fun q2 H10 S10 pt2 => ?_⟩
        intro y1 x1 c1 c2 c3
        refine mk_ln2 (pt1.same S10) pt2 st.n12 c1 c2 c3 fun H11 S11 L1 => ⟨rfl, ?_⟩
        have Sa := (S9.trans S10).trans S11
        refine ⟨_, rfl, _, X3, Y3, rfl, st.s3.same Sa, D3.w, E3.w, fun q3 H12 S12 pt3 => ?_⟩
        refine ⟨_, rfl, _, X4, Y4, rfl, (st.s4.same Sa).same S12, D4.w, E4.w, fun q4 H13 S13 pt4 => ?_⟩
        intro y2 x2 c4 c5 c6
        refine mk_ln2 (pt3.same S13) pt4 st.n34 c4 c5 c6 fun H14 S14 L2 => ⟨rfl, ?_⟩
        have Sb := (Sa.trans (S12.trans S13)).trans S14
        replace L1 := L1.same ((S12.trans S13).trans S14)
        have g14 := st.go.ex Sb
        have r1 := st.s1.same Sb
        have r2 := st.s2.same Sb
        have r3 := st.s3.same Sb
        have r4 := st.s4.same Sb
        clear Sa Sb S9 S10 S11 S12 S13 S14 pt1 pt2 pt3 pt4 c1 c2 c3 c4 c5 c6
        obtain ⟨_, dx, w1, w2, e, hb, p1, p2⟩ := id L1
        cases e
        obtain ⟨o1, i1, _, _, rfl, ho1, _, _⟩ := id p1
        obtain ⟨o2, i2, _, _, rfl, ho2, _, _⟩ := id p2
        have nfC : PySem.W.notFirst K a.Point (.ref a.Point) = true := by simp [PySem.W.notFirst]
        refine ⟨_, rfl, _, _, _, _, _, rfl, hb, T.clL, T.nA, rfl, _, rfl, _, X1, Y1, rfl, r1, D1.w, E1.w, fun m1 H15 S15 k1 => ?_⟩
        obtain ⟨o3, i3, _, _, rfl, ho3, _, _⟩ := id k1
        refine ⟨o1, i1, _, _, rfl, S15 _ _ ho1, .ins ho3, nfC, _, _, _, _, _, _, rfl, p1.same S15, k1, fun H16 S16 => ?_⟩
        rw [decide_eq_true ⟨rfl, rfl⟩]
        refine ⟨_, rfl, iteF ?_⟩
        have Sc := S15.trans S16
        refine ⟨_, rfl, _, _, _, _, _, rfl, Sc _ _ hb, T.clL, T.nB, rfl, _, rfl, _, X2, Y2, rfl, r2.same Sc, D2.w, E2.w, fun m2 H17 S17 k2 => ?_⟩
        obtain ⟨o4, i4, _, _, rfl, ho4, _, _⟩ := id k2
        have Sd := Sc.trans S17
        refine ⟨o2, i2, _, _, rfl, Sd _ _ ho2, .ins ho4, nfC, _, _, _, _, _, _, rfl, p2.same Sd, k2, fun H18 S18 => ?_⟩
        rw [decide_eq_true ⟨rfl, rfl⟩]
        refine ⟨_, rfl, iteF ?_⟩
        have Se := Sd.trans S18
        replace L1 := L1.same Se
        replace L2 := L2.same Se
        have g18 := g14.ex Se
        replace r1 := r1.same Se
        replace r2 := r2.same Se
        replace r3 := r3.same Se
        replace r4 := r4.same Se
        clear Sc Sd Se S15 S16 S17 S18 k1 k2 ho1 ho2 ho3 ho4 g14 hb p1 p2
        -- the dots
        refine ⟨_, rfl, _, rfl, _, rfl, _, rfl, _, rfl, _, rfl, _, rfl, p, 30, k + 20, rfl, g18.pot, by omega, by decide, by decide, fun d1 H19 c1 e1 g19 => ?_⟩
        refine ⟨_, _, rfl, rfl, ?_⟩
        refine ⟨_, rfl, p, 7, k + 21, rfl, g19.pot, by omega, by decide, by decide, fun d2 H20 c2 e2 g20 => ?_⟩
        refine ⟨_, _, rfl, rfl, (by show 2 ≤ sizeLine; decide), fun t21 f21 => ?_⟩
        have S21 := same_new (o := .tup [.int (d1 - 15), .int (1 + d2)]) f21
        have h21 : upd H20 t21 (.tup [.int (d1 - 15), .int (1 + d2)]) t21 = some (.tup [.int (d1 - 15), .int (1 + d2)]) := upd_same
        have g21 : Go p (k + 22) H (upd H20 t21 (.tup [.int (d1 - 15), .int (1 + d2)])) := ((g18.trans g19).trans g20).ex S21
        replace L1 := ((L1.go g18.pot g19).go g19.pot g20).same S21
        replace L2 := ((L2.go g18.pot g19).go g19.pot g20).same S21
        replace r1 := ((r1.go g18.pot g19).go g19.pot g20).same S21
        replace r2 := ((r2.go g18.pot g19).go g19.pot g20).same S21
        replace r3 := ((r3.go g18.pot g19).go g19.pot g20).same S21
        replace r4 := ((r4.go g18.pot g19).go g19.pot g20).same S21
        generalize upd H20 t21 (.tup [.int (d1 - 15), .int (1 + d2)]) = H21 at L1 L2 r1 r2 r3 r4 h21 g21 S21 ⊢
        have n1 : (d1 - 15).natAbs ≤ 10 ^ 2 := by omega
        have n2 : (1 + d2).natAbs ≤ 10 := by omega
        have z2' : 1 + d2 ≠ 0 := by omega
        refine ⟨z1, z2, .ref t21, X1, Y1, X2, Y2, d1 - 15, 1 + d2, rfl, r1, r2, ⟨t21, rfl, h21⟩, z2', wd_small (by omega), wd_small (by omega), D1.w, E1.w, D2.w, E2.w, (sub62 st.a2 st.a1).w (by decide) (by decide), (sub62 st.b2 st.b1).w (by decide) (by decide), (al_10 st.a1 st.a2 z2' n1 n2).w (by decide) (by decide), (al_10 st.b1 st.b2 z2' n1 n2).w (by decide) (by decide), fun v5 H22 S22 r5 => ?_⟩
        have D5 : Dq (X1 + (X2 - X1) * Rat.divInt (d1 - 15) (1 + d2)) := (al_10 st.a1 st.a2 z2' n1 n2).mono (by decide) (by decide)
        have E5 : Dq (Y1 + (Y2 - Y1) * Rat.divInt (d1 - 15) (1 + d2)) := (al_10 st.b1 st.b2 z2' n1 n2).mono (by decide) (by decide)
        generalize X1 + (X2 - X1) * Rat.divInt (d1 - 15) (1 + d2) = X5 at r5 D5
        generalize Y1 + (Y2 - Y1) * Rat.divInt (d1 - 15) (1 + d2) = Y5 at r5 E5
        refine ⟨(by show 5 ≤ sizeLine; decide), fun l fl sl => ?_⟩
        have Sl := same_new (o := .lst [z1, z2, v3, v4, v5]) fl
        have hl : upd H22 l (.lst [z1, z2, v3, v4, v5]) l = some (.lst [z1, z2, v3, v4, v5]) := upd_same
        have gl : Go p (k + 22) H (upd H22 l (.lst [z1, z2, v3, v4, v5])) := (g21.ex S22).ex Sl
        have fs0 : FS a p (k + 22) Ph Po H (.ref y1) (.ref y2) z1 z2 v3 v4 X1 Y1 X2 Y2 X3 Y3 X4 Y4 (upd H22 l (.lst [z1, z2, v3, v4, v5])) :=
          ⟨gl.pot, Kp.go gl, Tabs.go gl pot tabs, (L1.same S22).same Sl, (L2.same S22).same Sl, (r1.same S22).same Sl, (r2.same S22).same Sl, (r3.same S22).same Sl, (r4.same S22).same Sl⟩
        replace r5 := SpAt.same Sl r5
        generalize upd H22 l (.lst [z1, z2, v3, v4, v5]) = Hl at hl fs0 r5 ⊢
        clear L1 L2 r1 r2 r3 r4 h21 g18 g19 g20 g21 gl S21 S22 Sl f21 fl sl
        refine ⟨_, rfl, l, rfl, ⟨_, SqL.of hl⟩, fun D hD => ?_⟩
        refine lc_list (xs := [z1, z2, v3, v4, v5]) (fun i H' => ExtN Hl H' ∧ H' D = some (.lst ((List.replicate i true).map V.bl)) ∧ Tabs (TT Ph Po) H') ⟨ExtN.of (same_new hD), upd_same, Tabs.ext fs0.tb (same_new hD)⟩ ?_ ?_ ?_
        · rintro i H' hi ⟨e, _, _⟩
          exact SqL.of (e _ _ hl fun _ z => nomatch z)
        · rintro i x H' hx ⟨e, dD, tb⟩
          refine ⟨rfl, ?_⟩
          have hi : i < 5 := (List.getElem?_eq_some_iff.mp hx).1
          obtain ⟨X, Y, sx, dx, dy⟩ : ∃ X Y, SpAt Hl x X Y ∧ Dq X ∧ Dq Y := by
            match i, hx with
            | 0, hx => cases hx; exact ⟨_, _, fs0.s1, D1, E1⟩
            | 1, hx => cases hx; exact ⟨_, _, fs0.s2, D2, E2⟩
            | 2, hx => cases hx; exact ⟨_, _, fs0.s3, D3, E3⟩
            | 3, hx => cases hx; exact ⟨_, _, fs0.s4, D4, E4⟩
            | 4, hx => cases hx; exact ⟨_, _, r5, D5, E5⟩
            | n + 5, hx => omega
          refine ⟨_, rfl, _, rfl, _, rfl, _, rfl, .ref y1, z1, z2, x, X1, Y1, X2, Y2, X, Y, rfl, fs0.L1.ext e, fs0.s1.ext e, fs0.s2.ext e, sx.ext e, st.n12, D1, E1, D2, E2, dx, dy, tb, fun H2 t2 e2 => ?_⟩
          have dD2 := e2 _ _ dD fun _ z => nomatch z
          refine ⟨_, dD2, by rw [List.length_map, List.length_replicate, sizeLine_eq]; omega, extN_over (e.trans e2) hD, ?_, Tabs.over t2 dD2⟩
          rw [upd_same, List.replicate_succ', List.map_append]
          rfl
        · rintro H' ⟨e, dD, tb⟩
          refine ⟨D, _, rfl, SqL.of dD, _, rfl, iteF ?_⟩
          have fs : FS a p (k + 22) Ph Po H (.ref y1) (.ref y2) z1 z2 v3 v4 X1 Y1 X2 Y2 X3 Y3 X4 Y4 H' :=
            ⟨fs0.pt.ext e, fs0.kp.trans (Kp.ext e), tb, fs0.L1.ext e, fs0.L2.ext e, fs0.s1.ext e, fs0.s2.ext e, fs0.s3.ext e, fs0.s4.ext e⟩
          clear fs0 r5 hl dD e tb hD
          have W13 := hw_of D1 E1 D2 E2 D3 E3
          have W14 := hw_of D1 E1 D2 E2 D4 E4
          have W31 := hw_of D3 E3 D4 E4 D1 E1
          have W32 := hw_of D3 E3 D4 E4 D2 E2
          have w13 : Wq (My.hq X1 Y1 X2 Y2 X3 Y3) := (hq_sz D1 E1 D2 E2 D3 E3).mono (by decide) (by decide)
          have w14 : Wq (My.hq X1 Y1 X2 Y2 X4 Y4) := (hq_sz D1 E1 D2 E2 D4 E4).mono (by decide) (by decide)
          have w31 : Wq (My.hq X3 Y3 X4 Y4 X1 Y1) := (hq_sz D3 E3 D4 E4 D1 E1).mono (by decide) (by decide)
          have w32 : Wq (My.hq X3 Y3 X4 Y4 X2 Y2) := (hq_sz D3 E3 D4 E4 D2 E2).mono (by decide) (by decide)
          have w1 : Wq (My.hq X1 Y1 X2 Y2 X3 Y3 - My.hq X1 Y1 X2 Y2 X4 Y4) := (h34_sz D1 E1 D2 E2 D3 E3 D4 E4).mono (by decide) (by decide)
          have w3 : Wq (My.hq X3 Y3 X4 Y4 X1 Y1 - My.hq X3 Y3 X4 Y4 X2 Y2) := (h34_sz D3 E3 D4 E4 D1 E1 D2 E2).mono (by decide) (by decide)
          have MWs := mw_of D1 E1 D2 E2 D3 E3 D4 E4
          obtain ⟨B, eB⟩ : ∃ B, B = crB X1 Y1 X2 Y2 X3 Y3 X4 Y4 := ⟨_, rfl⟩
          obtain ⟨S, eS⟩ : ∃ S, S = crS X1 Y1 X3 Y3 X4 Y4 := ⟨_, rfl⟩
          rw [← eB, ← eS] at MWs
          refine ⟨fun σ' H2 => ∃ vm vi, σ' = [some (.ref p), some z1, some v3, some z2, some v4, some (.ref y1), some (.ref y2), some (.ref l), some vm, some vi, none, none] ∧ FS a p (k + 22) Ph Po H (.ref y1) (.ref y2) z1 z2 v3 v4 X1 Y1 X2 Y2 X3 Y3 X4 Y4 H2 ∧ (B = 0 → vm = .non ∧ vi = .non) ∧
            (B ≠ 0 → PtQ a.Ratio a.Point H2 vm (X1 + (X2 - X1) * (S / B)) (Y1 + (Y2 - Y1) * (S / B)) ∧ PtQ a.Ratio a.Point H2 vi (X1 + (X2 - X1) * (S / B)) (Y1 + (Y2 - Y1) * (S / B))), ?first, ?rest⟩
          case first =>
            obtain ⟨_, dx1, _, _, e1, hb1, _, _⟩ := id fs.L1
            cases e1
            obtain ⟨_, dx2, _, _, e2, hb2, _, _⟩ := id fs.L2
            cases e2
            refine ⟨_, rfl, _, rfl, y1, y2, _, _, _, _, rfl, rfl, hb1, hb2, _, _, X1, Y1, X2, Y2, X3, Y3, X4, Y4, _, _, rfl, fs.L1, fs.L2, W13, W14, rfl, rfl, w13, w14, w1, fun c H3 S3 => ?_, fun c => ⟨aw_of D1 E1 D2 E2 D3 E3 D4 E4 c, fun zm H3 S3 rm => ?_⟩⟩
            · rw [and_B, ← eB] at c
              have c0 : B = 0 := by grind
              refine ⟨_, rfl, _, rfl, y2, y1, _, _, _, _, rfl, rfl, S3 _ _ hb2, S3 _ _ hb1, _, _, X3, Y3, X4, Y4, X1, Y1, X2, Y2, _, _, rfl, fs.L2.same S3, fs.L1.same S3, W31, W32, rfl, rfl, w31, w32, w3, fun c H4 S4 => ?_, fun c2 => absurd c0 (by rw [dna_B, ← eB] at c2; exact c2)⟩
              exact ⟨_, _, rfl, _, _, rfl, (fs.same S3).same S4, fun _ => ⟨rfl, rfl⟩, fun z => absurd c0 z⟩
            · have c0 : B ≠ 0 := by
                rw [and_B, ← eB] at c
                grind
              rw [meet_X (eB ▸ c0), meet_Y (eB ▸ c0), ← eB, ← eS] at rm
              refine ⟨_, rfl, _, rfl, y2, y1, _, _, _, _, rfl, rfl, S3 _ _ hb2, S3 _ _ hb1, _, _, X3, Y3, X4, Y4, X1, Y1, X2, Y2, _, _, rfl, fs.L2.same S3, fs.L1.same S3, W31, W32, rfl, rfl, w31, w32, w3, fun c2 => absurd (by rw [dna_B, ← eB] at c2; exact c2) c0, fun c2 => ⟨aw_of D3 E3 D4 E4 D1 E1 D2 E2 c2, fun zi H4 S4 ri => ?_⟩⟩
              rw [dna_B, dna_S, ← eB, ← eS] at ri
              exact ⟨_, _, rfl, _, _, rfl, (fs.same S3).same S4, fun z => absurd z c0, fun _ => ⟨rm.same S4, ri⟩⟩
          case rest =>
            clear fs w13 w14 w31 w32 w1 w3 W13 W14 W31 W32
            rintro σ' H9 ⟨vm, vi, rfl, fs, c0, c1⟩
            refine ⟨fun σ' H2 => ∃ vd, σ' = [some (.ref p), some z1, some v3, some z2, some v4, some (.ref y1), some (.ref y2), some (.ref l), some vm, some vi, some vd, none] ∧ FS a p (k + 22) Ph Po H (.ref y1) (.ref y2) z1 z2 v3 v4 X1 Y1 X2 Y2 X3 Y3 X4 Y4 H2 ∧ (B = 0 → vd = .non) ∧
              (B ≠ 0 → PtQ a.Ratio a.Point H2 vm (X1 + (X2 - X1) * (S / B)) (Y1 + (Y2 - Y1) * (S / B)) ∧ PtQ a.Ratio a.Point H2 vi (X1 + (X2 - X1) * (S / B)) (Y1 + (Y2 - Y1) * (S / B)) ∧ SpAt H2 vd (X1 + (X2 - X1) * (S / B)) (Y1 + (Y2 - Y1) * (S / B))), ?first, ?rest⟩
            case first =>
              exact ⟨_, rfl, _, rfl, _, rfl, _, rfl, z1, z2, v3, v4, X1, Y1, X2, Y2, X3, Y3, X4, Y4, B, S, rfl, fs.s1, fs.s2, fs.s3, fs.s4, eB, eS, MWs, fun z H2 S2 => ⟨.non, rfl, fs.same S2, fun _ => rfl, fun h => absurd z h⟩, fun z v H2 S2 r => ⟨v, rfl, fs.same S2, fun h => absurd h z, fun h => ⟨(c1 h).1.same S2, (c1 h).2.same S2, r⟩⟩⟩
            case rest =>
              clear fs c1
              rintro σ' H10 ⟨vd, rfl, fs, d0, d1⟩
              have wx := MWs.rx
              have wy := MWs.ry
              generalize X1 + (X2 - X1) * (S / B) = PX at d1 wx
              generalize Y1 + (Y2 - Y1) * (S / B) = PY at d1 wy
              refine ⟨fun σ' H2 => σ' = [some (.ref p), some z1, some v3, some z2, some v4, some (.ref y1), some (.ref y2), some (.ref l), some vm, some vi, some vd, none] ∧ H2 = H10, ?first, ?rest⟩
              case first =>
                by_cases h : B = 0
                · obtain ⟨rfl, rfl⟩ := c0 h
                  obtain rfl := d0 h
                  refine ⟨_, rfl, rfl, _, rfl, ite2 (fun _ => ?_) (fun c => absurd (decide_eq_true rfl) c)⟩
                  refine ⟨_, rfl, rfl, _, rfl, ite2 (fun c => absurd c (by simp)) (fun _ => ?_)⟩
                  refine ⟨_, rfl, rfl, _, rfl, ite2 (fun c => absurd c (by simp)) (fun _ => ?_)⟩
                  exact ⟨rfl, rfl⟩
                · obtain ⟨pm, pi, sd⟩ := d1 h
                  obtain ⟨bd, _, _, _, rfl, _⟩ := id sd
                  exact ⟨_, rfl, rfl, _, rfl, ite2 (fun c => nomatch of_decide_eq_true c) (fun _ => ⟨rfl, rfl⟩)⟩
              case rest =>
                rintro σ' H2 ⟨rfl, rfl⟩
                have nfC : PySem.W.notFirst K a.Point (.ref a.Point) = true := by simp [PySem.W.notFirst]
                refine ⟨fun σ' H2 => σ' = [some (.ref p), some z1, some v3, some z2, some v4, some (.ref y1), some (.ref y2), some (.ref l), some vm, some vi, some vd, none] ∧ FS a p (k + 22) Ph Po H (.ref y1) (.ref y2) z1 z2 v3 v4 X1 Y1 X2 Y2 X3 Y3 X4 Y4 H2, ?first, ?rest⟩
                case first =>
                  by_cases h : B = 0
                  · obtain ⟨rfl, rfl⟩ := c0 h
                    obtain rfl := d0 h
                    exact ⟨_, rfl, rfl, _, rfl, ite2 (fun c => absurd c (by simp)) (fun _ => ⟨rfl, fs⟩)⟩
                  · obtain ⟨pm, pi, sd⟩ := d1 h
                    obtain ⟨bd, x', y', d', rfl, hd, cd⟩ := id sd
                    refine ⟨_, rfl, rfl, _, rfl, ite2 (fun _ => ?_) (fun c => absurd c (by simp))⟩
                    refine ⟨_, rfl, _, _, _, _, true, rfl, .own _, ptTy T pm, T.riP.ks, true, rfl, iteT ?_⟩
                    refine ⟨_, rfl, vm, PX, PY, rfl, pm, wx h, wy h, fun z H3 S3 r => ?_⟩
                    obtain ⟨pz, xz, yz, dz, rfl, hz, cz⟩ := r
                    obtain ⟨rfl, rfl, rfl⟩ := cz.uniq cd
                    refine ⟨_, rfl, _, _, dot_dp hz, dot_dp (S3 _ _ hd), dot_shaped, dot_shaped, ?_⟩
                    rw [dot_eqv, decide_eq_true ⟨rfl, rfl, rfl⟩]
                    refine ⟨_, rfl, iteT ?_⟩
                    replace pm := pm.same S3
                    replace pi := pi.same S3
                    obtain ⟨b1, i1, _, _, rfl, h1, _, _⟩ := id pm
                    obtain ⟨b2, i2, _, _, rfl, h2, _, _⟩ := id pi
                    refine ⟨_, rfl, _, rfl, b2, i2, _, _, rfl, h2, .ins h1, nfC, _, _, _, _, _, _, rfl, pi, pm, fun H4 S4 => ?_⟩
                    rw [decide_eq_true ⟨rfl, rfl⟩]
                    refine ⟨_, rfl, ?_⟩
                    refine iteF ?_
                    exact ⟨rfl, (fs.same S3).same S4⟩
                case rest =>
                  clear fs
                  rintro σ' H3 ⟨rfl, fs⟩
                  obtain ⟨_, dx1, u1, u2, e1, hb1, p1, p2⟩ := id fs.L1
                  cases e1
                  obtain ⟨_, dx2, u3, u4, e2, hb2, p3, p4⟩ := id fs.L2
                  cases e2
                  have nfL : PySem.W.notFirst K a.Line (.ref a.Line) = true := by simp [PySem.W.notFirst]
                  refine ⟨_, rfl, _, rfl, y1, dx1, _, _, rfl, hb1, .ins hb2, nfL, _, _, X1, Y1, X2, Y2, rfl, fs.L1, .inl ⟨X3, Y3, X4, Y4, fs.L2, fun H4 S4 => ?_⟩⟩
                  have f4 := fs.same S4
                  obtain ⟨a1, xa, ya, da, rfl, ha, ca⟩ := f4.s1
                  obtain ⟨a2, xb, yb, db, rfl, hb, cb⟩ := f4.s2
                  obtain ⟨a3, xc, yc, dc, rfl, hc, cc⟩ := f4.s3
                  obtain ⟨a4, xd, yd, dd, rfl, hd, cd⟩ := f4.s4
                  refine ⟨_, rfl, _, rfl, (by show 2 ≤ sizeLine; decide), fun t5 f5 => ⟨_, rfl, _, rfl, (by show 2 ≤ sizeLine; decide), fun t6 f6 => ?_⟩⟩
                  have S5 := same_new (o := .tup [.ref a1, .ref a2]) f5
                  have S6 := same_new (o := .tup [.ref a3, .ref a4]) f6
                  have h5 := S6 _ _ (show upd H4 t5 (.tup [.ref a1, .ref a2]) t5 = _ from upd_same)
                  have h6 : upd (upd H4 t5 (.tup [.ref a1, .ref a2])) t6 (.tup [.ref a3, .ref a4]) t6 = some (.tup [.ref a3, .ref a4]) := upd_same
                  have f6 := (f4.same S5).same S6
                  replace ha := S6 _ _ (S5 _ _ ha)
                  replace hb := S6 _ _ (S5 _ _ hb)
                  replace hc := S6 _ _ (S5 _ _ hc)
                  replace hd := S6 _ _ (S5 _ _ hd)
                  generalize upd (upd H4 t5 (.tup [.ref a1, .ref a2])) t6 (.tup [.ref a3, .ref a4]) = H6 at *
                  refine ⟨_, _, .tup (SqT.of h5) (.cons (dot_dp ha) (.cons (dot_dp hb) .nil)), .tup (SqT.of h6) (.cons (dot_dp hc) (.cons (dot_dp hd) .nil)), dots_shaped, dots_shaped, ?_⟩
                  rw [dots_eqv, show decide ((xa = xc ∧ ya = yc ∧ da = dc) ∧ (xb = xd ∧ yb = yd ∧ db = dd)) = decide ((X1 = X3 ∧ Y1 = Y3) ∧ (X2 = X4 ∧ Y2 = Y4)) from decide_eq_decide.mpr (and_congr (ca.iff cc) (cb.iff cd))]
                  refine ⟨rfl, _, rfl, ite2 (fun c => absurd c (by simp)) (fun _ => ?_)⟩
                  obtain ⟨_, dx1, u1, u2, e1, hb1, p1, p2⟩ := id f6.L1
                  cases e1
                  refine ⟨_, rfl, _, rfl, _, _, _, _, _, rfl, hb1, T.clL, T.nB, rfl, _, rfl, _, _, _, _, _, rfl, hb1, T.clL, T.nA, rfl, ?_⟩
                  intro x7 d7 c7 c8 c9
                  refine mk_ln2 p2 p1 (fun z => st.n12 ⟨z.1.symm, z.2.symm⟩) c7 c8 c9 fun H7 S7 L7 => ⟨rfl, ?_⟩
                  obtain ⟨_, d7, _, _, e7, h7, _, _⟩ := id L7
                  cases e7
                  refine ⟨y1, dx1, _, _, rfl, S7 _ _ hb1, .ins h7, nfL, _, _, X1, Y1, X2, Y2, rfl, f6.L1.same S7, .inl ⟨X2, Y2, X1, Y1, L7, fun H8' S8 => ?_⟩⟩
                  rw [decide_eq_false fun z => st.n12 z.1]
                  refine ⟨_, rfl, iteF ?_⟩
                  have f8 := (f6.same S7).same S8
                  refine ⟨_, rfl, _, rfl, _, X1, Y1, rfl, f8.s1, D1.w, E1.w, fun m1 H9' S9 k1 => ?_⟩
                  refine ⟨_, rfl, _, X2, Y2, rfl, f8.s2.same S9, D2.w, E2.w, fun m2 H10' S10 k2 => ?_⟩
                  intro x11 d11 c10 c11 c12
                  refine mk_ln2 (k1.same S10) k2 st.n12 c10 c11 c12 fun H11 S11 L11 => ⟨rfl, ?_⟩
                  have f11 := ((f8.same S9).same S10).same S11
                  obtain ⟨_, dx1, u1, u2, e1, hb1, p1, p2⟩ := id f11.L1
                  cases e1
                  obtain ⟨_, d11, _, _, e11, h11, _, _⟩ := id L11
                  cases e11
                  refine ⟨y1, dx1, _, _, rfl, hb1, .ins h11, nfL, _, _, X1, Y1, X2, Y2, rfl, f11.L1, .inl ⟨X1, Y1, X2, Y2, L11, fun H12 S12 => ?_⟩⟩
                  rw [decide_eq_true ⟨⟨rfl, rfl⟩, ⟨rfl, rfl⟩⟩]
                  refine ⟨_, rfl, iteT ?_⟩
                  have f12 := f11.same S12
                  obtain ⟨_, dx1, u1, u2, e1, hb1, p1, p2⟩ := id f12.L1
                  cases e1
                  obtain ⟨o1, i1, _, _, rfl, ho1, _, _⟩ := id p1
                  refine ⟨_, rfl, _, rfl, _, _, _, _, _, rfl, hb1, T.clL, T.nA, rfl, y1, dx1, _, _, rfl, hb1, .ins ho1, T.nLP, _, _, X1, Y1, X2, Y2, rfl, f12.L1, .inr ⟨⟨_, ptTy T p1, T.rPL⟩, ?_⟩⟩
                  exact ⟨_, rfl, q _ f12.tb f12.kp (f12.pt.mono (by omega))⟩
end
end My

namespace My
open PySem PySem.Spec PyProof.Rows L2 G LamX NdefX
abbrev s__law_odd_right : Stmt := topS 47
theorem sc__law_odd_right : FnScope ["_law_pot_here", "_law_one", "_law_other", "_law_odd_here", "_law_looks", "_law_caught", "_law_look", "_law_error"] ["_law_pot_here"] (defScope s__law_odd_right) := ⟨rfl, rfl, rfl, by decide +kernel, rfl, by decide +kernel, by decide +kernel⟩

def oddF : List Stmt := forB ((defBody s__law_odd_right).getD 1 noS)
def le1 : Expr := eltE 0 (stE (oddF.getD 0 noS))
def le2 : Expr := eltE 0 (stE (oddF.getD 1 noS))
def le3 : Expr := eltE 0 (stE (oddF.getD 2 noS))
def le4 : Expr := eltE 0 (stE (oddF.getD 3 noS))
def le5 : Expr := eltE 0 (stE (oddF.getD 4 noS))
def le6 : Expr := eltE 0 (opdE (stE ((defBody s__law_odd_right).getD 2 noS)))
theorem are_lams : ([le1, le2, le3, le4, le5, le6].all isLam) = true := by decide +kernel
abbrev spLn (K : PySem.W.Frag) (a : Ad) : Sp := spLInit K a.Ratio a.Point a.Line a.BadPoint
abbrev spHg (K : PySem.W.Frag) (a : Ad) : Sp := spHeight K a.Ratio a.Point a.Line a.BadPoint
def tR1 (K : PySem.W.Frag) (a : Ad) (E : XK) : TE := tMake a.Line (spLn K a) [] E (tCons (tVar 0) (tCons (tVar 1) tNil))
def tR2 (K : PySem.W.Frag) (a : Ad) (E : XK) : TE := tMake a.Line (spLn K a) [] E (tCons (tVar 1) (tCons (tVar 0) tNil))
def tR3 (K : PySem.W.Frag) (a : Ad) (E : XK) : TE := tMake a.Line (spLn K a) [] E (tCons (tVar 0) (tCons (tVar 0) tNil))
def tR4 (K : PySem.W.Frag) (a : Ad) (E : XK) : TE := tMeth a.Line "height" (spHg K a) [] E (tMake a.Line (spLn K a) [] E (tCons (tVar 1) (tCons (tVar 2) tNil))) (tCons (tVar 0) tNil)
def tR5 (K : PySem.W.Frag) (a : Ad) (E : XK) : TE := tMeth a.Line "share" (spShP K a) [] E (tMake a.Line (spLn K a) [] E (tCons (tVar 1) (tCons (tVar 2) tNil))) (tCons (tVar 0) tNil)
def tR6 (K : PySem.W.Frag) (a : Ad) (E : XK) : TE := tMake a.Line (spLn K a) [] E (tCons (tVar 0) (tCons (tMake a.Point (spPInit a.Ratio a.Point) [] E0 (tCons (tMake a.Ratio (spInit K a.Ratio) [] E0 (tCons (tC (.int 2)) (tCons (tC (.int 4)) tNil))) (tCons (tC (.int 3)) tNil))) tNil))
theorem Kp.over {p D : Addr} {H H' : Hp} {ys : List V} (k : Kp p H H') (n : H D = none) : Kp p H (upd H' D (.lst ys)) := fun b o e => by
  obtain ⟨nb, eb, t⟩ := vw_some e
  exact vw_at (by rw [upd_ne (ne_of_none eb n)]; exact k.at eb nb t) nb t
theorem PotAt.over {p D : Addr} {k : Nat} {H : Hp} {o : HO} (h : PotAt H p k) (n : D ≠ p) : PotAt (upd H D o) p k := by
  obtain ⟨x, y, z, e, r⟩ := h
  exact ⟨x, y, z, by rw [upd_ne n.symm]; exact e, r⟩
/-- all but the list and the tables stays -/
def Stay (L : Addr) (H H' : Hp) : Prop := ∀ b o, H b = some o → (∀ ps, o ≠ .tbl ps) → (∀ ys, o ≠ .lst ys) → H' b = some o
theorem Stay.trans {L : Addr} {H H1 H2 : Hp} (a : Stay L H H1) (b : Stay L H1 H2) : Stay L H H2 := fun c o e t l => b c o (a c o e t l) t l
theorem Stay.same {L : Addr} {H H' : Hp} (S : Same H H') : Stay L H H' := fun b o e _ _ => S b o e
theorem Stay.ext {L : Addr} {H H' : Hp} (S : ExtN H H') : Stay L H H' := fun b o e t _ => S b o e t
theorem Stay.put {L : Addr} {H : Hp} {xs ys : List V} (h : H L = some (.lst xs)) : Stay L H (upd H L (.lst ys)) := fun b o e _ l => by rw [upd_ne (lst_ne h e l)]; exact e
/-- a lambda in the list -/
def LItem (H : Hp) (mk : Addr → LF) (q : V) : Prop := ∃ f c', q = .ref f ∧ H f = some (LamO f (mk c')) ∧ H c' = some (CodeO c' (mk c').qual)
theorem LItem.stay {L : Addr} {H H' : Hp} {mk : Addr → LF} {q : V} (S : Stay L H H') (h : LItem H mk q) : LItem H' mk q := by
  obtain ⟨f, c', rfl, h3, h4⟩ := h
  exact ⟨f, c', rfl, S _ _ h3 (fun _ => lamO_ne _) (fun _ => lamO_no), S _ _ h4 (fun _ => codeO_ne _) (fun _ => codeO_no)⟩
/-- where the making of the list stands -/
structure SL (Ph Po p : Addr) (k : Nat) (H0 H : Hp) (L : Addr) (qs : List V) : Prop where
  tb : Tabs (TT Ph Po) H
  pt : PotAt H p k
  kp : Kp p H0 H
  hl : H L = some (.lst qs)
  nL : H0 L = none
  np : L ≠ p
theorem fst_item {Ph Po p : Addr} {i : Nat} {k : Nat} {H : Hp} {σ : L2.St} {mk : Addr → LF} {D : Ends} (tb : Tabs (TT Ph Po) H) (pt : PotAt H p k)
    (q : ∀ H' x L, SL Ph Po p k H H' L [x] → LItem H' mk x → D.nx (σ.set i (some (.ref L))) H') : tAsg (tLstS (tCons (tLamK (TT Ph Po) mk) tNil)) (gName i) D σ H := by
  refine ⟨tb, fun f c' H1 eN T1 nn nf hf hc => ⟨(by show 1 ≤ sizeLine; decide), fun L fL sL => ?_⟩⟩
  have S1 := same_new (o := .lst [.ref f]) fL
  exact q _ _ L ⟨Tabs.ext T1 S1, (pt.ext eN).same S1, Kp.ext (eN.trans (ExtN.of S1)), upd_same, nn L fL, fun z => (pt.ext eN).has (by rw [← z]; exact fL)⟩ ⟨f, c', rfl, S1 _ _ hf, S1 _ _ hc⟩
theorem add_item {K : PySem.W.Frag} {Ph Po p L : Addr} {i : Nat} {k : Nat} {H0 H : Hp} {σ : L2.St} {mk : Addr → LF} {qs : List V} {D : Ends} (hσ : σ[i]? = some (some (.ref L))) (st : SL Ph Po p k H0 H L qs) (hn : qs.length < 100)
    (q : ∀ H' x, SL Ph Po p k H0 H' L (qs ++ [x]) → Stay L H H' → LItem H' mk x → D.nx σ H') : tDrop (tBM K "list" rAppend (tVar i) (tCons (tLamK (TT Ph Po) mk) tNil)) D σ H := by
  refine ⟨_, hσ, .inl ⟨rfl, _, SqL.of st.hl⟩, st.tb, fun f c' H1 eN T1 nn nf hf hc => ?_⟩
  have hl' := eN _ _ st.hl fun _ z => nomatch z
  refine ⟨_, _, _, rfl, rfl, hl', by rw [sizeLine_eq]; omega, ?_⟩
  have it : LItem H1 mk (.ref f) := ⟨f, c', rfl, hf, hc⟩
  exact q _ _ ⟨Tabs.over T1 hl', (st.pt.ext eN).over st.np, (st.kp.trans (Kp.ext eN)).over st.nL, upd_same, st.nL, st.np⟩ ((Stay.ext eN).trans (Stay.put hl')) (it.stay (Stay.put hl'))
theorem caught_put {H : Hp} {D e C : Addr} {xs ys : List V} {v : V} (hD : H D = some (.lst xs)) (c : Caught H e C v) : Caught (upd H D (.lst ys)) e C v := by
  obtain ⟨d, h1, h2⟩ := c
  exact ⟨d, by rw [upd_ne (lst_ne hD h1 fun _ z => by unfold exc at z; cases z)]; exact h1, by rw [upd_ne (lst_ne hD h2 fun _ z => nomatch z)]; exact h2⟩
theorem da_notP {K : PySem.W.Frag} {mg : Str → Option Value} {a : Ad} (T : Txt K mg a) {H : Hp} {x : V} {d : PyData} (h : Da H x d) : NotR K a.Point H x := by
  cases h with
  | non => exact ⟨_, .base .non, T.riP.kt _ (by simp)⟩
  | bl b => exact ⟨_, .base (.bl b), T.riP.kt _ (by simp)⟩
  | int i => exact ⟨_, .base (.int i), T.riP.kt _ (by simp)⟩
  | str y => exact ⟨_, .base (.str y), T.riP.kt _ (by simp)⟩
  | lst e n t => exact ⟨_, .base (.lst e), T.riP.kt _ (by simp)⟩
  | tup e t => exact ⟨_, .base (.tup e), T.riP.kt _ (by simp)⟩
  | dct e t => exact ⟨_, .base (.dK e), T.riP.kt _ (by simp)⟩
/-- isinstance of a caught error, and what it keeps, within a comprehension -/
def rIsC (K : PySem.W.Frag) : List V → Hp → VK → Prop := fun xs H Q => ∃ (a C : Addr) (v c : V) (u : Value) (b : Bool), xs = [.ref a, c] ∧ ClsV c u ∧ EC K C ∧ Caught H a C v ∧ PySem.W.kitOne K (.ref C) u = some b ∧ Q (.bl b) H
def tValC (K : PySem.W.Frag) (te : TE) : TE := fun σ H Q => te σ H fun x H1 => ∃ a C v, x = .ref a ∧ EC K C ∧ Caught H1 a C v ∧ Q v H1

theorem mk_noln {K : PySem.W.Frag} {C CP CL B : Addr} {H : Hp} {v w : V} {E : XK} {Q : Addr → VK}
    (c : ∀ H', Same H H' → (NotR K CP H' v ∧ Told H' v B E) ∨ (TyX K H' v (.ref CP) ∧ (∀ H'', Same H' H'' → NotR K CP H'' w) ∧ Told H' w B E) ∨ (∃ X Y, PtQ C CP H' v X Y ∧ PtQ C CP H' w X Y ∧ Told H' w B E)) :
    ∀ x dx, H x = none → H dx = none → dx ≠ x → spLInit K C CP CL B [.ref x, v, w] (upd (upd H dx (.own x)) x (.ins CL dx [])) (Q x) E := by
  intro x dx hx hdx n
  have S : Same H (upd (upd H dx (.own x)) x (.ins CL dx [])) := fun b o e => by
    rw [upd_ne (ne_of_none e hx), upd_ne (ne_of_none e hdx)]
    exact e
  exact ⟨x, dx, v, w, rfl, upd_same, .inr (c _ S)⟩
section
variable {K : PySem.W.Frag} {mg : Str → Option Value} {a : Ad} {H : Hp} {x p q : V} {d : PyData} {X Y X' Y' : Rat}
theorem ra1 (T : Txt K mg a) (h : Da H x d) : Raises a.BadPoint (fun E H Q => tR1 K a E [some x, some p] H Q) H (fun _ v => v = x) :=
  fun H1 S1 E' Q' hE => ⟨_, rfl, _, rfl, mk_noln fun H' S' => .inl ⟨da_notP T ((h.same S1).same S'), fun d H2 S2 e => hE d x H2 (S'.trans S2) e rfl⟩⟩
theorem ra2 (T : Txt K mg a) (h : Da H x d) (hp : PtQ a.Ratio a.Point H p X Y) : Raises a.BadPoint (fun E H Q => tR2 K a E [some x, some p] H Q) H (fun _ v => v = x) :=
  fun H1 S1 E' Q' hE => ⟨_, rfl, _, rfl, mk_noln fun H' S' => .inr (.inl ⟨ptTy T ((hp.same S1).same S'), fun H2 S2 => da_notP T (((h.same S1).same S').same S2), fun d H2 S2 e => hE d x H2 (S'.trans S2) e rfl⟩)⟩
theorem ra3 (T : Txt K mg a) (h : Da H x d) : Raises a.BadPoint (fun E H Q => tR3 K a E [some x] H Q) H (fun _ v => v = x) :=
  fun H1 S1 E' Q' hE => ⟨_, rfl, _, rfl, mk_noln fun H' S' => .inl ⟨da_notP T ((h.same S1).same S'), fun d H2 S2 e => hE d x H2 (S'.trans S2) e rfl⟩⟩
theorem ra4 (T : Txt K mg a) (h : Da H x d) (hp : PtQ a.Ratio a.Point H p X Y) (hq : PtQ a.Ratio a.Point H q X' Y') (ne : ¬ (X = X' ∧ Y = Y')) : Raises a.BadPoint (fun E H Q => tR4 K a E [some x, some p, some q] H Q) H (fun _ v => v = x) := by
  intro H1 S1 E' Q' hE
  refine ⟨_, rfl, _, rfl, ?_⟩
  intro x1 d1 c1 c2 c3
  refine mk_ln2 (hp.same S1) (hq.same S1) ne c1 c2 c3 fun H2 S2 L => ⟨rfl, ?_⟩
  obtain ⟨_, dx, _, _, e, hb, _, _⟩ := id L
  cases e
  exact ⟨x1, dx, _, rfl, hb, rfl, _, rfl, _, _, X, Y, X', Y', rfl, L, .inr ⟨da_notP T ((h.same S1).same S2), fun d H3 S3 e => hE d x H3 (S2.trans S3) e rfl⟩⟩
theorem ra5 (T : Txt K mg a) (h : Da H x d) (hp : PtQ a.Ratio a.Point H p X Y) (hq : PtQ a.Ratio a.Point H q X' Y') (ne : ¬ (X = X' ∧ Y = Y')) : Raises a.BadPoint (fun E H Q => tR5 K a E [some x, some p, some q] H Q) H (fun _ v => v = x) := by
  intro H1 S1 E' Q' hE
  refine ⟨_, rfl, _, rfl, ?_⟩
  intro x1 d1 c1 c2 c3
  refine mk_ln2 (hp.same S1) (hq.same S1) ne c1 c2 c3 fun H2 S2 L => ⟨rfl, ?_⟩
  obtain ⟨_, dx, _, _, e, hb, _, _⟩ := id L
  cases e
  exact ⟨x1, dx, _, rfl, hb, rfl, _, rfl, _, _, X, Y, X', Y', rfl, L, .inr ⟨da_notP T ((h.same S1).same S2), fun d H3 S3 e => hE d x H3 (S2.trans S3) e rfl⟩⟩
theorem ra6 (T : Txt K mg a) (hp : PtQ a.Ratio a.Point H p (Rat.divInt 1 2) 3) : Raises a.BadPoint (fun E H Q => tR6 K a E [some p] H Q) H (fun H' v => PtQ a.Ratio a.Point H' v (Rat.divInt 1 2) 3) := by
  intro H1 S1 E' Q' hE
  refine ⟨_, rfl, ?_⟩
  intro z1 e1 f1 f2 f3
  refine mk_q2 (by decide) (show (4 : Int).natAbs < 2 ^ 8000 from Nat.lt_of_lt_of_le (m := 2 ^ 3) (by decide) (Nat.pow_le_pow_right (by decide) (by decide))) f1 f2 f3 fun H2 S2 r2 => ⟨rfl, ?_⟩
  have e2 : Rat.divInt 2 4 = Rat.divInt 1 2 := (Rat.divInt_eq_divInt_iff (by decide) (by decide)).mpr (by decide)
  rw [e2] at r2
  intro z3 e3 f4 f5 f6
  refine mk_pt (X := Rat.divInt 1 2) (Y := 3) (.inr r2) (.inl ⟨rfl, rfl⟩) f4 f5 f6 fun H3 S3 p3 => ⟨rfl, ?_⟩
  have S13 := S2.trans S3
  exact mk_noln fun H' S' => .inr (.inr ⟨_, _, ((hp.same S1).same S13).same S', p3.same S', fun d H4 S4 e => hE d _ H4 ((S13.trans S').trans S4) e ((p3.same S').same S4)⟩)
end
def spOddR (Ph Po : Addr) : Sp := fun vs H Q _ => ∃ p k, vs = [.ref p] ∧ PotAt H p k ∧ k ≤ 80000 ∧ Tabs (TT Ph Po) H ∧ ∀ H', Tabs (TT Ph Po) H' → Kp p H H' → PotAt H' p (k + 1) → Q (.bl true) H'
section
variable {P : Program} {w : World} {K : PySem.W.Frag} {mg : Str → Option Value} {base : Heap} {a : Ad}
abbrev oddN : List Str := ["_law_pot_here", "_law_one", "_law_other", "_law_odd_here", "_law_looks", "_law_caught", "_law_look", "_law_error"]
abbrev cxOdd (P : Program) (w : World) (K : PySem.W.Frag) (mg : Str → Option Value) (base : Heap) (a : Ad) (cA : Addr) (A : Around) (outer : List Env) (s : Shared) (H : Hp) (E : XK) : Cx :=
  (cxOf CX0 P w K mg base oddN "_law_odd_right" (defScope s__law_odd_right) a._law_odd_right (.ref cA) A outer s H E).nox
theorem ok_odd_right {cA Ph Po : Addr} {oc kV doc pm ct : Value} {an od : Option Addr} {osl : Array (Option Value)} (T : Txt K mg a) (hne : Ph ≠ Po)
    (lk : K.lookup a._law_odd_right = some ⟨oc, od, .func (PySem.W.fnOf "_law_odd_right" "_law_odd_right" (defArgs s__law_odd_right) (defBody s__law_odd_right) (defScope s__law_odd_right) .none kV doc pm an (.ref cA) ct), osl⟩)
    (hc : PySem.W.codeIn K (.ref cA) "_law_odd_right" = true) (TB : TabB base mg cA Po)
    {fdt : FuncData} (Gt : FnC P w K mg base CX0 1 a._law_told fdt ["_law_ask"] (spTold K a.AboutError)) (bt : Binds K fdt ["_law_ask"] [])
    {fd_Point___eq__ : FuncData} (G_Point___eq__ : FnOk P w K mg base CX0 4 a.Point___eq__ fd_Point___eq__ ["self", "other"] (spPEq K a.Ratio a.Point)) (b_Point___eq__ : Binds K fd_Point___eq__ ["self", "other"] [])
    {fd_Line___init__ : FuncData} (G_Line___init__ : FnOk P w K mg base (L2.CX P w) 6 a.Line___init__ fd_Line___init__ ["self", "one", "other"] (spLInit K a.Ratio a.Point a.Line a.BadPoint)) (b_Line___init__ : Binds K fd_Line___init__ ["self", "one", "other"] [])
    {fd_Line_height : FuncData} (G_Line_height : FnOk P w K mg base (L2.CX P w) 9 a.Line_height fd_Line_height ["self", "point"] (spHeight K a.Ratio a.Point a.Line a.BadPoint)) (b_Line_height : Binds K fd_Line_height ["self", "point"] [])
    {fd_Line_share : FuncData} (G_Line_share : FnOk P w K mg base (L2.CX P w) 10 a.Line_share fd_Line_share ["self", "point"] (spShare K a.Ratio a.Point a.Line a.BadPoint a.Off)) (b_Line_share : Binds K fd_Line_share ["self", "point"] [])
    {fd_Point___init__ : FuncData} (G_Point___init__ : FnOk P w K mg base CX0 6 a.Point___init__ fd_Point___init__ ["self", "x", "y"] (spPInit a.Ratio a.Point)) (b_Point___init__ : Binds K fd_Point___init__ ["self", "x", "y"] [])
    {fd_Ratio___init__ : FuncData} (G_Ratio___init__ : FnOk P w K mg base CX0 2 a.Ratio___init__ fd_Ratio___init__ ["self", "number", "under"] (spInit K a.Ratio)) (b_Ratio___init__ : Binds K fd_Ratio___init__ ["self", "number", "under"] [])
    {ds_Ratio___init__ : List Value} (d_Ratio___init__ : Vals [.int 1] ds_Ratio___init__ ∧ Binds K fd_Ratio___init__ ["self", "number", "under"] ds_Ratio___init__)
    {fd__law_odd : FuncData} (G__law_odd : Fn P w K mg base CX0 3 a._law_odd fd__law_odd ["_law_pot_here"] spOdd0) (b__law_odd : Binds K fd__law_odd ["_law_pot_here"] [])
    : Fn P w K mg base CX0 14 a._law_odd_right (PySem.W.fnOf "_law_odd_right" "_law_odd_right" (defArgs s__law_odd_right) (defBody s__law_odd_right) (defScope s__law_odd_right) .none kV doc pm an (.ref cA) ct) ["_law_pot_here"] (spOddR Ph Po) := by
  refine fnOf lk hc sc__law_odd_right (fun vs H Q E h => ?len) (fun A outer s H vs Q E hq hr h => ?body)
  case len => obtain ⟨p, k, rfl, _⟩ := h; rfl
  case body =>
    suffices z : ∃ t, PSs (cxOdd P w K mg base a cA A outer s H E) (defBody s__law_odd_right) t ∧ t { nx := fun _ H' => Q .non H', rt := Q } (L2.start oddN vs) H by
      obtain ⟨t, z1, z2⟩ := z
      exact ⟨t, z1.nox, z2⟩
    have g1 : (dL (cxOdd P w K mg base a cA A outer s H E) 11 le1 ["_law_odd_here", "_law_one"] [3, 1] (tR1 K a)).Good := goodL (by decide +kernel) (fun _ _ _ _ _ => rfl) (show ndefB (defScope s__law_odd_right) (lamSc le1) ["_law_odd_here", "_law_one"] = true by decide +kernel) rfl fun f c' A outer s H E hr2 =>
      pe_make T.m_Line G_Line___init__ (hr2.mono (by omega)) (by rfl) T.g_Line b_Line___init__ .nil (passes_call (takes_of rfl rfl rfl rfl) fun _ _ _ _ h => h) (pa_cons (pv 0) (pa_cons (pv 1) pa_nil))
    have g2 : (dL (cxOdd P w K mg base a cA A outer s H E) 11 le2 ["_law_odd_here", "_law_one"] [3, 1] (tR2 K a)).Good := goodL (by decide +kernel) (fun _ _ _ _ _ => rfl) (show ndefB (defScope s__law_odd_right) (lamSc le2) ["_law_odd_here", "_law_one"] = true by decide +kernel) rfl fun f c' A outer s H E hr2 =>
      pe_make T.m_Line G_Line___init__ (hr2.mono (by omega)) (by rfl) T.g_Line b_Line___init__ .nil (passes_call (takes_of rfl rfl rfl rfl) fun _ _ _ _ h => h) (pa_cons (pv 1) (pa_cons (pv 0) pa_nil))
    have g3 : (dL (cxOdd P w K mg base a cA A outer s H E) 11 le3 ["_law_odd_here"] [3] (tR3 K a)).Good := goodL (by decide +kernel) (fun _ _ _ _ _ => rfl) (show ndefB (defScope s__law_odd_right) (lamSc le3) ["_law_odd_here"] = true by decide +kernel) rfl fun f c' A outer s H E hr2 =>
      pe_make T.m_Line G_Line___init__ (hr2.mono (by omega)) (by rfl) T.g_Line b_Line___init__ .nil (passes_call (takes_of rfl rfl rfl rfl) fun _ _ _ _ h => h) (pa_cons (pv 0) (pa_cons (pv 0) pa_nil))
    have g4 : (dL (cxOdd P w K mg base a cA A outer s H E) 11 le4 ["_law_odd_here", "_law_one", "_law_other"] [3, 1, 2] (tR4 K a)).Good := goodL (by decide +kernel) (fun _ _ _ _ _ => rfl) (show ndefB (defScope s__law_odd_right) (lamSc le4) ["_law_odd_here", "_law_one", "_law_other"] = true by decide +kernel) rfl fun f c' A outer s H E hr2 =>
      pe_meth (pe_make T.m_Line G_Line___init__ (hr2.mono (by omega)) (by rfl) T.g_Line b_Line___init__ .nil (passes_call (takes_of rfl rfl rfl rfl) fun _ _ _ _ h => h) (pa_cons (pv 1) (pa_cons (pv 2) pa_nil))) T.clL T.hg G_Line_height (hr2.mono (by omega)) b_Line_height .nil (passes_call (takes_of rfl rfl rfl rfl) fun _ _ _ _ h => h) (pa_cons (pv 0) pa_nil)
    have g5 : (dL (cxOdd P w K mg base a cA A outer s H E) 11 le5 ["_law_odd_here", "_law_one", "_law_other"] [3, 1, 2] (tR5 K a)).Good := goodL (by decide +kernel) (fun _ _ _ _ _ => rfl) (show ndefB (defScope s__law_odd_right) (lamSc le5) ["_law_odd_here", "_law_one", "_law_other"] = true by decide +kernel) rfl fun f c' A outer s H E hr2 =>
      pe_meth (pe_make T.m_Line G_Line___init__ (hr2.mono (by omega)) (by rfl) T.g_Line b_Line___init__ .nil (passes_call (takes_of rfl rfl rfl rfl) fun _ _ _ _ h => h) (pa_cons (pv 1) (pa_cons (pv 2) pa_nil))) T.clL T.sh G_Line_share (hr2.mono (by omega)) b_Line_share .nil (passes_call (takes_of rfl rfl rfl rfl) fun _ _ _ _ h => h) (pa_cons (pv 0) pa_nil)
    have g6 : (dL (cxOdd P w K mg base a cA A outer s H E) 11 le6 ["_law_other"] [2] (tR6 K a)).Good := goodL (by decide +kernel) (fun _ _ _ _ _ => rfl) (show ndefB (defScope s__law_odd_right) (lamSc le6) ["_law_other"] = true by decide +kernel) rfl fun f c' A outer s H E hr2 =>
      pe_make T.m_Line G_Line___init__ (hr2.mono (by omega)) (by rfl) T.g_Line b_Line___init__ .nil (passes_call (takes_of rfl rfl rfl rfl) fun _ _ _ _ h => h) (pa_cons (pv 0) (pa_cons (pe_make T.m_Point G_Point___init__ (hr2.mono (by omega)) (by rfl) T.g_Point b_Point___init__ .nil pass0 (pa_cons (pe_make T.m_Ratio G_Ratio___init__ (hr2.mono (by omega)) (by rfl) T.g_Ratio b_Ratio___init__ .nil pass0 (pa_cons pe_int (pa_cons pe_int pa_nil))) (pa_cons pe_int pa_nil))) pa_nil))
    obtain ⟨Ds, hDs⟩ : ∃ Ds : List (LamD (cxOdd P w K mg base a cA A outer s H E)), Ds = [dL _ 11 le1 ["_law_odd_here", "_law_one"] [3, 1] (tR1 K a), dL _ 11 le2 ["_law_odd_here", "_law_one"] [3, 1] (tR2 K a), dL _ 11 le3 ["_law_odd_here"] [3] (tR3 K a), dL _ 11 le4 ["_law_odd_here", "_law_one", "_law_other"] [3, 1, 2] (tR4 K a), dL _ 11 le5 ["_law_odd_here", "_law_one", "_law_other"] [3, 1, 2] (tR5 K a)] := ⟨_, rfl⟩
    have gds : ∀ D ∈ Ds, D.Good := fun D hD => by
      rw [hDs] at hD
      simp only [List.mem_cons, List.not_mem_nil, or_false] at hD
      rcases hD with rfl | rfl | rfl | rfl | rfl <;> assumption
    have hrs : ∀ D ∈ Ds, Room (D.k + 1 + 1) (cxOdd P w K mg base a cA A outer s H E).A := fun D hD => by
      rw [hDs] at hD
      simp only [List.mem_cons, List.not_mem_nil, or_false] at hD
      rcases hD with rfl | rfl | rfl | rfl | rfl <;> exact hr.mono (by show 11 + 1 + 1 ≤ 13; decide)
    refine ⟨_, (pss_cons (ps_asg (pe_tup (pa_cons (pe_make T.m_Point G_Point___init__ (hr.mono (by omega)) (by rfl) T.g_Point b_Point___init__ .nil pass0 (pa_cons pe_int (pa_cons pe_int pa_nil))) (pa_cons (pe_make T.m_Point G_Point___init__ (hr.mono (by omega)) (by rfl) T.g_Point b_Point___init__ .nil pass0 (pa_cons (pe_make T.m_Ratio G_Ratio___init__ (hr.mono (by omega)) (by rfl) T.g_Ratio b_Ratio___init__ .nil pass0 (pa_cons pe_int (pa_cons pe_int pa_nil))) (pa_cons pe_int pa_nil))) pa_nil))) (pg_tup rfl (pgs_cons (pg_name (i := 1) sc__law_odd_right.nd rfl (Or.inr rfl)) (pgs_cons (pg_name (i := 2) sc__law_odd_right.nd rfl (Or.inr rfl)) pgs_nil))))
      (pss_cons (ps_for PassesOwn.never rfl (pi_tup (pe_tup (pa_cons pe_non (pa_cons pe_bl (pa_cons (pe_tup (pa_cons pe_int (pa_cons pe_int pa_nil))) (pa_cons pe_str (pa_cons (pe_lstS pa_nil) (pa_cons pe_int (pa_cons (pe_fn G__law_odd hq (hr.mono (by omega)) (by rfl) T.g__law_odd T.k__law_odd b__law_odd .nil pass0 (pa_cons (pv 0) pa_nil)) pa_nil))))))))) (pg_name (i := 3) sc__law_odd_right.nd rfl (Or.inr rfl)) (pss_cons (ps_set (i := 4) sc__law_odd_right.nd rfl (Or.inl rfl) (pe_lstS (pa_cons (pe_lamK (T := TT Ph Po) TB rfl (List.mem_cons_of_mem _ (List.mem_cons_self ..)) (hu_O hne) rfl (lamS_by (sc := defScope s__law_odd_right) (by decide +kernel))) pa_nil)))
      (pss_cons (ps_expr (pe_bm PySem.F.plainAttrs_list PySem.F.slot_list_append PySem.F.type_list_append mt_append (pv 4) (pa_cons (pe_lamK (T := TT Ph Po) TB rfl (List.mem_cons_of_mem _ (List.mem_cons_self ..)) (hu_O hne) rfl (lamS_by (sc := defScope s__law_odd_right) (by decide +kernel))) pa_nil)))
      (pss_cons (ps_expr (pe_bm PySem.F.plainAttrs_list PySem.F.slot_list_append PySem.F.type_list_append mt_append (pv 4) (pa_cons (pe_lamK (T := TT Ph Po) TB rfl (List.mem_cons_of_mem _ (List.mem_cons_self ..)) (hu_O hne) rfl (lamS_by (sc := defScope s__law_odd_right) (by decide +kernel))) pa_nil)))
      (pss_cons (ps_expr (pe_bm PySem.F.plainAttrs_list PySem.F.slot_list_append PySem.F.type_list_append mt_append (pv 4) (pa_cons (pe_lamK (T := TT Ph Po) TB rfl (List.mem_cons_of_mem _ (List.mem_cons_self ..)) (hu_O hne) rfl (lamS_by (sc := defScope s__law_odd_right) (by decide +kernel))) pa_nil)))
      (pss_cons (ps_expr (pe_bm PySem.F.plainAttrs_list PySem.F.slot_list_append PySem.F.type_list_append mt_append (pv 4) (pa_cons (pe_lamK (T := TT Ph Po) TB rfl (List.mem_cons_of_mem _ (List.mem_cons_self ..)) (hu_O hne) rfl (lamS_by (sc := defScope s__law_odd_right) (by decide +kernel))) pa_nil)))
      (pss_cons (ps_setLcC (i := 5) (own := [("_law_look", 6)]) (g := gName 6) rfl sc__law_odd_right.nd rfl rfl (sw_true rfl rfl rfl (by decide +kernel)) (pi_list (pv 4)) (blkOk_by (own := [("_law_look", 6)]) (N := oddN) (sc := defScope s__law_odd_right) (by decide +kernel)) (fun _ _ _ _ _ => pg_name (i := 6) sc__law_odd_right.nd rfl (Or.inl rfl) (hf := Or.inr rfl)) (fun pins0 σ0 s0 H0 C0 cl0 fp0 I0 hf0 => pe_ix (show IxR _ (rIxT K) from ix_tup) (pe_fnC Gt hq (by rfl) T.g__law_told T.k__law_told bt .nil pass0 (pa_cons (pv 6) pa_nil) (known_blk (Ds := Ds) I0 hf0 gds (fun _ _ _ => rfl) hrs)) pe_int (fun _ _ => rfl)))
      (pss_one (ps_if (pt_not (pt_val (pe_callB (cr_all rfl) (by rfl) T.n_all (by decide +kernel) (pa_cons (pe_lc (own := [("_law_error", 7)]) (g := gName 7) (tt := tYes) rfl sc__law_odd_right.nd (pi_list (pv 5)) (blkOk_by (own := [("_law_error", 7)]) (N := ["_law_pot_here", "_law_one", "_law_other", "_law_odd_here", "_law_looks", "_law_caught", "_law_look", "_law_error"]) (sc := defScope s__law_odd_right) (by decide +kernel)) (fun _ _ _ _ _ => (pg_name (i := 7) sc__law_odd_right.nd rfl (Or.inl rfl))) (fun _ _ _ _ _ => pts_nil) (fun _ _ _ _ _ => (pe_and (pe_callB (show CallR _ (.builtin "isinstance") (rIsC K) from call_isCaught T.ek) (by rfl) T.n_isinstance (by decide +kernel) (pa_cons (pv 7) (pa_cons (pe_glob (v := .ref a.BadPoint) (by rfl) T.g_BadPoint rfl) pa_nil))) (pe_one (pe_cmpR op_eq (pe_callB (call_reprD hq hr.units) (by rfl) T.n_repr (by decide +kernel) (pa_cons (show PE _ _ (tValC K (tVar 7)) from pe_valueC (pv 7)) pa_nil)) (pe_callB (call_reprD hq hr.units) (by rfl) T.n_repr (by decide +kernel) (pa_cons (pv 3) pa_nil)) (nomark _)))))) pa_nil)))) (pss_one (ps_ret pe_bl)) pss_nil)))))))))
      (pss_cons (ps_set (i := 5) sc__law_odd_right.nd rfl (Or.inl rfl) (pe_ix ix_tup (pe_fnC Gt hq (by rfl) T.g__law_told T.k__law_told bt .nil pass0 (pa_cons (pe_lamK (T := TT Ph Po) TB rfl (List.mem_cons_of_mem _ (List.mem_cons_self ..)) (hu_O hne) rfl (lamS_by (sc := defScope s__law_odd_right) (by decide +kernel))) pa_nil) (known_here g6 (fun _ _ _ => rfl) (hr.mono (by show 11 + 1 + 1 ≤ 13; decide)))) pe_int (fun _ _ => rfl)))
      (pss_one (ps_ret (pe_and (pe_callB (call_isCaught T.ek) (by rfl) T.n_isinstance (by decide +kernel) (pa_cons (pv 5) (pa_cons (pe_glob (v := .ref a.BadPoint) (by rfl) T.g_BadPoint rfl) pa_nil))) (pe_one (pe_cmpR (op_eqK T.eqp (fnR G_Point___eq__ b_Point___eq__) (hr.mono (by omega)) pass0) (pe_valueC (pv 5)) (pv 2) (nomark _))))))))), ?_⟩
    obtain ⟨p, k, rfl, pot, hk, tabs, q⟩ := h
    have u2 : Ud 2 := show (2 : Int).natAbs < 2 ^ 8000 from Nat.lt_of_lt_of_le (m := 2 ^ 2) (by decide) (Nat.pow_le_pow_right (by decide) (by decide))
    intro x1 d1 c1 c2 c3
    refine mk_pt (X := 0) (Y := 0) (.inl ⟨rfl, rfl⟩) (.inl ⟨rfl, rfl⟩) c1 c2 c3 fun H1 S1 p1 => ⟨rfl, ?_⟩
    intro x2 d2 c4 c5 c6
    refine mk_q2 (n := 1) (u := 2) (by decide) u2 c4 c5 c6 fun H2 S2 r2 => ⟨rfl, ?_⟩
    intro x3 d3 c7 c8 c9
    refine mk_pt (X := Rat.divInt 1 2) (Y := 3) (.inr r2) (.inl ⟨rfl, rfl⟩) c7 c8 c9 fun H3 S3 p3 => ⟨rfl, ?_⟩
    have ne : ¬ ((0 : Rat) = Rat.divInt 1 2 ∧ (0 : Rat) = 3) := fun z => absurd z.2 (by decide)
    refine ⟨(by show 2 ≤ sizeLine; decide), fun t4 f4 => ⟨t4, _, rfl, SqT.of upd_same, rfl, _, _, rfl, _, _, rfl, rfl, ?_⟩⟩
    have S4 := same_new (o := .tup [.ref x1, .ref x3]) f4
    have S04 := (S1.trans (S2.trans S3)).trans S4
    have pot4 := pot.same S04
    have tb4 := Tabs.ext tabs S04
    have k04 : Kp p H (upd H3 t4 (.tup [.ref x1, .ref x3])) := Kp.same S04
    replace p1 := (p1.same (S2.trans S3)).same S4
    replace p3 := PtQ.same S4 p3
    generalize upd H3 t4 (.tup [.ref x1, .ref x3]) = H4 at p1 p3 pot4 tb4 k04 ⊢
    clear S1 S2 S3 S4 S04 r2 c1 c2 c3 c4 c5 c6 c7 c8 c9 f4
    have mv : ∀ {H : Hp} {k : Nat} {z : V} {X Y : Rat}, PotAt H p k → PtQ a.Ratio a.Point H z X Y → PtQ a.Ratio a.Point (vw p H) z X Y := fun {H k z X Y} pt h => by
      obtain ⟨b, dx, v, w, rfl, hb, r, r'⟩ := h
      refine ⟨b, dx, v, w, rfl, vw_at hb (fun z => ?_) (fun _ z => nomatch z), r.vw pt, r'.vw pt⟩
      obtain ⟨_, _, _, f, _⟩ := pt
      rw [z, f] at hb
      cases hb
    replace p1 := mv pot4 p1
    replace p3 := mv pot4 p3
    -- the values
    refine ⟨(by show 2 ≤ sizeLine; decide), fun t5 f5 => ?_⟩
    refine ⟨(by show 0 ≤ sizeLine; decide), fun l6 f6 s6 => ?_⟩
    have S5 := same_new (o := .tup [.int 0, .int 0]) f5
    have S6 := same_new (o := .lst []) f6
    refine ⟨_, rfl, p, k, rfl, (pot4.same S5).same S6, (by omega), fun v7 H7 i7 g7 => ?_⟩
    have pot6 := (pot4.same S5).same S6
    have k67 : Kp p (upd (upd H4 t5 (.tup [.int 0, .int 0])) l6 (.lst [])) H7 := Kp.go g7
    have k47 : Kp p H4 H7 := (Kp.same (S5.trans S6)).trans k67
    have tb7 := Tabs.go g7 pot6 ((Tabs.ext tb4 S5).ext S6)
    have o5 : ∃ d, Da (vw p (upd (upd H4 t5 (.tup [.int 0, .int 0])) l6 (.lst []))) (.ref t5) d ∧ Gd 60 4 d := ⟨_, .tup (vw_at (S6 _ _ upd_same) (fun z => pot4.has (by rw [← z]; exact f5)) fun _ z => nomatch z) (.cons (.int 0) (.cons (.int 0) .nil)), gdB_ok (by decide +kernel)⟩
    have o6 : ∃ d, Da (vw p (upd (upd H4 t5 (.tup [.int 0, .int 0])) l6 (.lst []))) (.ref l6) d ∧ Gd 60 4 d := ⟨_, .lst (vw_at upd_same (fun z => (pot4.same S5).has (by rw [← z]; exact f6)) fun _ z => nomatch z) s6 .nil, gdB_ok (by decide +kernel)⟩
    have o7 : ∃ d, Da (vw p H7) v7 d ∧ Gd 60 4 d := by
      obtain ⟨d, hd, gd⟩ := i7 (fun b => b = p) fun b e => by rw [e]; exact pot6.has
      exact ⟨d, da_strip hd, gd.1⟩
    have up : ∀ {x : V} {Ha Hb : Hp}, Kp p Ha Hb → (∃ d, Da (vw p Ha) x d ∧ Gd 60 4 d) → ∃ d, Da (vw p Hb) x d ∧ Gd 60 4 d := fun k h => let ⟨d, h1, h2⟩ := h; ⟨d, h1.same k, h2⟩
    replace o5 := up k67 o5
    replace o6 := up k67 o6
    replace p1 := p1.same k47
    replace p3 := p3.same k47
    have k07 := k04.trans k47
    refine ⟨(by show 7 ≤ sizeLine; decide), fun t8 f8 => ?_⟩
    have S8 := same_new (o := .tup [.non, .bl true, .ref t5, .str "0 0", .ref l6, .int 3, v7]) f8
    have h8 : upd H7 t8 (.tup [.non, .bl true, .ref t5, .str "0 0", .ref l6, .int 3, v7]) t8 = some (.tup [.non, .bl true, .ref t5, .str "0 0", .ref l6, .int 3, v7]) := upd_same
    have n8 : t8 ≠ p := fun z => g7.pot.has (by rw [← z]; exact f8)
    have tb8 := Tabs.ext tb7 S8
    have pt8 := g7.pot.same S8
    have k78 : Kp p H7 (upd H7 t8 (.tup [.non, .bl true, .ref t5, .str "0 0", .ref l6, .int 3, v7])) := Kp.same S8
    generalize upd H7 t8 (.tup [.non, .bl true, .ref t5, .str "0 0", .ref l6, .int 3, v7]) = H8 at h8 tb8 pt8 k78 ⊢
    replace p1 := p1.same k78
    replace p3 := p3.same k78
    have k08 := k07.trans k78
    have obs : ∀ x ∈ [V.non, .bl true, .ref t5, .str "0 0", .ref l6, .int 3, v7], ∃ d, Da (vw p H8) x d ∧ Gd 60 4 d := by
      intro x hx
      simp only [List.mem_cons, List.not_mem_nil, or_false] at hx
      rcases hx with rfl | rfl | rfl | rfl | rfl | rfl | rfl
      · exact ⟨_, .non, gdB_ok (by decide +kernel)⟩
      · exact ⟨_, .bl true, gdB_ok (by decide +kernel)⟩
      · exact up k78 o5
      · exact ⟨_, .str "0 0", gdB_ok (by decide +kernel)⟩
      · exact up k78 o6
      · exact ⟨_, .int 3, gdB_ok (by decide +kernel)⟩
      · exact up k78 o7
    clear o5 o6 o7 up k67 k47 k78 k07 k04 tb7 tb4 pot6 pot4 i7 mv f5 f6 s6 f8 S5 S6 S8 g7
    refine ⟨t8, rfl, ⟨_, SqT.of h8⟩, for_it (walk_tup (xs := [V.non, .bl true, .ref t5, .str "0 0", .ref l6, .int 3, v7]))
      (fun i σ H' => ∃ s3 s4 s5 s6 s7, σ = [some (.ref p), some (.ref x1), some (.ref x3), s3, s4, s5, s6, s7] ∧ Kp p H8 H' ∧ Tabs (TT Ph Po) H' ∧ PotAt H' p (k + 1)) ⟨none, none, none, none, none, rfl, Kp.refl _ _, tb8, pt8⟩ ?_ ?_ ?_⟩
    · rintro i σ H' _ ⟨s3, s4, s5, s6, s7, _, kp, _, _⟩
      exact SqT.of (kp.at h8 n8 fun _ z => nomatch z)
    · rintro i x σ H' H'' hi ⟨s3, s4, s5, s6, s7, rfl, kp, tb, pt⟩ ⟨rfl, hx⟩
      obtain ⟨d, hd, gd⟩ := obs x (List.mem_of_getElem? hx)
      replace hd := hd.same kp
      refine s_seq (fst_item (p := p) (k := k + 1) tb pt fun Ha q1 L sa i1 => ?_)
      refine s_seq (add_item (p := p) (k := k + 1) (H0 := H'') (L := L) rfl sa (by show 1 < 100; decide) fun Hb q2 sb stb i2 => ?_)
      refine s_seq (add_item (p := p) (k := k + 1) (H0 := H'') (L := L) rfl sb (by show 2 < 100; decide) fun Hc q3 sc stc i3 => ?_)
      refine s_seq (add_item (p := p) (k := k + 1) (H0 := H'') (L := L) rfl sc (by show 3 < 100; decide) fun Hd q4 sd std i4 => ?_)
      refine s_seq (add_item (p := p) (k := k + 1) (H0 := H'') (L := L) rfl sd (by show 4 < 100; decide) fun He q5 se ste i5 => ?_)
      replace i1 := (((i1.stay stb).stay stc).stay std).stay ste
      replace i2 := ((i2.stay stc).stay std).stay ste
      replace i3 := (i3.stay std).stay ste
      replace i4 := i4.stay ste
      have dat : ∀ H', Same He H' → Da H' x d := fun H' S' => ((hd.same se.kp).same (vw_le _ _)).same S'
      have pa : ∀ H', Same He H' → PtQ a.Ratio a.Point H' (.ref x1) 0 0 := fun H' S' => (((p1.same kp).same se.kp).same (vw_le _ _)).same S'
      have pb : ∀ H', Same He H' → PtQ a.Ratio a.Point H' (.ref x3) (Rat.divInt 1 2) 3 := fun H' S' => (((p3.same kp).same se.kp).same (vw_le _ _)).same S'
      obtain ⟨qs, eqs⟩ : ∃ qs, qs = (([q1] ++ [q2]) ++ [q3] ++ [q4]) ++ [q5] := ⟨_, rfl⟩
      have hl := se.hl
      rw [← eqs] at hl
      have lq : qs.length = 5 := by rw [eqs]; rfl
      have each : ∀ (j : Nat) y, qs[j]? = some y → ∃ f c' D, y = .ref f ∧ D ∈ Ds ∧ He f = some (LamO f (lamOf (cxOdd P w K mg base a cA A outer s H E) (LamD.params D) (LamD.body D) (LamD.scope D) c')) ∧
          He c' = some (CodeO c' (lamOf (cxOdd P w K mg base a cA A outer s H E) (LamD.params D) (LamD.body D) (LamD.scope D) c').qual) ∧
          ∀ H', Same He H' → Raises a.BadPoint (fun E H Q => LamD.tb D E ((LamD.js D).map (slotAt [some (.ref p), some (.ref x1), some (.ref x3), some x, some (.ref L), s5, s6, s7])) H Q) H' (fun _ v => v = x) := by
        rw [hDs, eqs]
        intro j y hy
        match j, hy with
        | 0, hy =>
          cases hy
          obtain ⟨f, c', rfl, e3, e4⟩ := i1
          exact ⟨f, c', _, rfl, List.mem_cons_self .., e3, e4, fun H' S' => ra1 T (dat H' S')⟩
        | 1, hy =>
          cases hy
          obtain ⟨f, c', rfl, e3, e4⟩ := i2
          exact ⟨f, c', _, rfl, List.mem_cons_of_mem _ (List.mem_cons_self ..), e3, e4, fun H' S' => ra2 T (dat H' S') (pa H' S')⟩
        | 2, hy =>
          cases hy
          obtain ⟨f, c', rfl, e3, e4⟩ := i3
          exact ⟨f, c', _, rfl, List.mem_cons_of_mem _ (List.mem_cons_of_mem _ (List.mem_cons_self ..)), e3, e4, fun H' S' => ra3 T (dat H' S')⟩
        | 3, hy =>
          cases hy
          obtain ⟨f, c', rfl, e3, e4⟩ := i4
          exact ⟨f, c', _, rfl, List.mem_cons_of_mem _ (List.mem_cons_of_mem _ (List.mem_cons_of_mem _ (List.mem_cons_self ..))), e3, e4, fun H' S' => ra4 T (dat H' S') (pa H' S') (pb H' S') ne⟩
        | 4, hy =>
          cases hy
          obtain ⟨f, c', rfl, e3, e4⟩ := i5
          exact ⟨f, c', _, rfl, List.mem_cons_of_mem _ (List.mem_cons_of_mem _ (List.mem_cons_of_mem _ (List.mem_cons_of_mem _ (List.mem_cons_self ..)))), e3, e4, fun H' S' => ra5 T (dat H' S') (pa H' S') (pb H' S') ne⟩
        | n + 5, hy => cases hy
      refine s_seq ?_
      refine ⟨_, rfl, L, rfl, ⟨_, SqL.of hl⟩, fun D hD => ?_⟩
      refine lc_list (xs := qs) (fun i H' => Same He H' ∧ ∃ es : List Addr, H' D = some (.lst (es.map V.ref)) ∧ es.length = i ∧ ∀ e ∈ es, Caught H' e a.BadPoint x) ⟨same_new hD, [], upd_same, rfl, fun e h => nomatch h⟩ ?_ ?_ ?_
      · rintro i H' hi ⟨S', _⟩
        exact SqL.of (S' _ _ hl)
      · rintro i y H' hy ⟨S', es, d', le, hes⟩
        have hi' : i < 5 := by rw [← lq]; exact (List.getElem?_eq_some_iff.mp hy).1
        obtain ⟨f, c', D', rfl, mD, e3, e4, ra⟩ := each i y hy
        refine ⟨rfl, ?_⟩
        refine ⟨_, rfl, f, _, _, ⟨D', mD, c', rfl, rfl⟩, rfl, S' _ _ e3, S' _ _ e4, f, rfl, ?_⟩
        refine told_raises (ra _ S') (fun H H' v S h => h) T.x_BadPoint fun H7 e t wv S7 ht ct hw => ?_
        refine ⟨_, _, _, _, rfl, rfl, SqT.of ht, rfl, _, S7 _ _ d', by rw [List.length_map, le, sizeLine_eq]; omega, fun b o e => ?_, es ++ [e], ?_, by rw [List.length_append, le]; rfl, fun e' he' => ?_⟩
        · rw [upd_ne (ne_of_none e hD)]
          exact S7 _ _ (S' _ _ e)
        · rw [upd_same, List.map_append]
          rfl
        · rcases List.mem_append.mp he' with h | h
          · exact caught_put (S7 _ _ d') ((hes e' h).same S7)
          · rw [List.mem_singleton.mp h, ← hw]
            exact caught_put (S7 _ _ d') ct
      · rintro H' ⟨S', es, d', le, hes⟩
        rw [lq] at le
        refine ⟨_, rfl, D, rfl, ⟨_, SqL.of d'⟩, fun D2 hD2 => ?_⟩
        refine lc_list (xs := es.map V.ref) (fun i H5 => Same H' H5 ∧ H5 D2 = some (.lst ((List.replicate i true).map V.bl))) ⟨same_new hD2, upd_same⟩ ?_ ?_ ?_
        · rintro i H5 hi ⟨S5, _⟩
          exact SqL.of (S5 _ _ d')
        · rintro i y H5 hy ⟨S5, d5⟩
          have hi' : i < 5 := by
            have := (List.getElem?_eq_some_iff.mp hy).1
            rw [List.length_map, le] at this
            exact this
          obtain ⟨e, he, rfl⟩ := List.mem_map.mp (List.mem_of_getElem? hy)
          have ct := (hes e he).same S5
          have dx := dat _ (S'.trans S5)
          refine ⟨rfl, ?_⟩
          refine ⟨_, rfl, e, a.BadPoint, x, _, _, true, rfl, .own _, T.c_BadPoint, ct, T.t_BadPoint, true, rfl, iteT ?_⟩
          refine ⟨_, rfl, e, a.BadPoint, x, rfl, T.c_BadPoint, ct, x, d, 60, 4, rfl, dx, gd, ⟨by decide, by decide⟩, ?_⟩
          refine ⟨_, rfl, x, d, 60, 4, rfl, dx, gd, ⟨by decide, by decide⟩, rfl, ?_⟩
          rw [decide_eq_true rfl]
          refine ⟨_, d5, by rw [List.length_map, List.length_replicate, sizeLine_eq]; omega, fun b o e => ?_, ?_⟩
          · rw [upd_ne (ne_of_none e hD2)]
            exact S5 _ _ e
          · rw [upd_same, List.replicate_succ', List.map_append]
            rfl
        · rintro H5 ⟨S5, d5⟩
          rw [List.length_map, le] at d5
          refine ⟨D2, List.replicate 5 true, rfl, SqL.of d5, _, rfl, iteF ?_⟩
          have Sf := S'.trans S5
          exact ⟨_, _, _, _, _, rfl, kp.trans (se.kp.trans (Kp.same Sf)), Tabs.ext se.tb Sf, se.pt.same Sf⟩
    · rintro σ H' ⟨s3, s4, s5, s6, s7, rfl, kp, tb, pt⟩
      refine ⟨tb, fun f c' H9 eN T9 nn nf hf hc => ⟨f, _, _, ⟨c', rfl, rfl⟩, rfl, hf, hc, f, rfl, ?_⟩⟩
      have pb : PtQ a.Ratio a.Point H9 (.ref x3) (Rat.divInt 1 2) 3 := ((p3.same kp).same (Kp.ext eN)).same (vw_le _ _)
      refine told_raises (ra6 T pb) (fun H H' v S h => h.same S) T.x_BadPoint fun H10 e t wv S10 ht ct hw => ?_
      refine ⟨_, _, _, _, rfl, rfl, SqT.of ht, rfl, ?_⟩
      refine ⟨_, rfl, e, a.BadPoint, wv, _, _, true, rfl, .own _, T.c_BadPoint, ct, T.t_BadPoint, true, rfl, iteT ?_⟩
      have nfC : PySem.W.notFirst K a.Point (.ref a.Point) = true := by simp [PySem.W.notFirst]
      replace pb := pb.same S10
      obtain ⟨_, e1, _, _, e2, h1, _, _⟩ := id pb
      cases e2
      obtain ⟨b2, e3, _, _, rfl, h2, _, _⟩ := id hw
      refine ⟨_, rfl, e, a.BadPoint, _, rfl, T.c_BadPoint, ct, _, rfl, b2, e3, _, _, rfl, h2, .ins h1, nfC, _, _, _, _, _, _, rfl, hw, pb, fun H11 S11 => ?_⟩
      rw [decide_eq_true ⟨rfl, rfl⟩]
      exact q H11 (Tabs.ext (Tabs.ext T9 S10) S11) ((k08.trans kp).trans ((Kp.ext eN).trans (Kp.same (S10.trans S11)))) (((pt.ext eN).same S10).same S11)
end
end My

namespace My
open PySem PySem.Spec PyProof.Rows L2 G LamX
abbrev s_law : Stmt := topS 48
theorem sc_law : FnScope ["_law_script", "_law_place", "_law_pot_here", "_law_turn"] ["_law_script"] (defScope s_law) := ⟨rfl, rfl, rfl, by decide +kernel, rfl, by decide +kernel, by decide +kernel⟩

theorem sql_ext {K : PySem.W.Frag} {H H' : Hp} {a : Addr} {xs : List V} (e : ExtN H H') (h : SqL K H a xs) : SqL K H' a xs := by
  rcases h with (h | ⟨o, h⟩) | h
  · exact .inl (.inl (e _ _ h fun _ z => nomatch z))
  · exact .inl (.inr ⟨o, e _ _ h fun _ z => nomatch z⟩)
  · exact .inr h
def spLaw (K : PySem.W.Frag) (Ph Po : Addr) : Sp := fun vs H Q _ => ∃ (s : Addr) (ns : List Int), vs = [.ref s] ∧ SqL K H s (ns.map V.int) ∧ ns.length ≤ 63 ∧ Tabs (TT Ph Po) H ∧ ∀ H', Q (.bl true) H'
section
variable {P : Program} {w : World} {K : PySem.W.Frag} {mg : Str → Option Value} {base : Heap} {a : Ad} {Ph Po : Addr}
theorem ok_law {fd : FuncData} (F : Fun K "law" "law" s_law a.law fd) (T : Txt K mg a)
    {fd__law_places : FuncData} (G__law_places : Fn P w K mg base CX0 1 a._law_places fd__law_places ["_law_script", "_law_most"] (spPlaces K)) (b__law_places : Binds K fd__law_places ["_law_script", "_law_most"] [])
    {fd__law_odd_right : FuncData} (G__law_odd_right : Fn P w K mg base CX0 14 a._law_odd_right fd__law_odd_right ["_law_pot_here"] (spOddR Ph Po)) (b__law_odd_right : Binds K fd__law_odd_right ["_law_pot_here"] [])
    {fd__law_right : FuncData} (G__law_right : Fn P w K mg base CX0 16 a._law_right fd__law_right ["_law_pot_here"] (spRi Ph Po)) (b__law_right : Binds K fd__law_right ["_law_pot_here"] [])
    {fd__law_pot : FuncData} (G__law_pot : Fn P w K mg base CX0 1 a._law_pot fd__law_pot ["_law_script", "_law_k"] (spPot K)) (b__law_pot : Binds K fd__law_pot ["_law_script", "_law_k"] []) :
    Fn P w K mg base CX0 18 a.law fd ["_law_script"] (spLaw K Ph Po) := by
  refine ok F sc_law (fun vs H Q E h => ?len) (fun cdv A outer s H vs Q E hq hr h => ⟨_,
      (pss_cons (ps_for PassesOwn.never rfl (pi_list (pe_fn G__law_places hq (hr.mono (by omega)) (by rfl) T.g__law_places T.k__law_places b__law_places .nil pass0 (pa_cons (pv 0) (pa_cons pe_int pa_nil)))) (pg_name (i := 1) sc_law.nd rfl (Or.inl rfl)) (pss_cons (ps_set (i := 2) sc_law.nd rfl (Or.inr rfl) (pe_fn G__law_pot hq (hr.mono (by omega)) (by rfl) T.g__law_pot T.k__law_pot b__law_pot .nil pass0 (pa_cons (pv 0) (pa_cons (pv 1) pa_nil))))
      (pss_one (ps_if (PW.pt (pw_or (pt_not (pt_val (pe_callB (cr_all rfl) (by rfl) T.n_all (by decide +kernel) (pa_cons (pe_lc (own := [("_law_turn", 3)]) (g := gName 3) (tt := tYes) rfl sc_law.nd (pi_range1 (by rfl) T.n_range (pa_cons pe_int pa_nil)) (blkOk_by (own := [("_law_turn", 3)]) (N := ["_law_script", "_law_place", "_law_pot_here", "_law_turn"]) (sc := defScope s_law) (by decide +kernel)) (fun _ _ _ _ _ => (pg_name (i := 3) sc_law.nd rfl (Or.inl rfl))) (fun _ _ _ _ _ => pts_nil) (fun _ _ _ _ _ => (pe_fn G__law_right hq (hr.mono (by omega)) (by rfl) T.g__law_right T.k__law_right b__law_right .nil pass0 (pa_cons (pv 2) pa_nil)))) pa_nil)))) (pw_or1 (pt_not (pt_val (pe_fn G__law_odd_right hq (hr.mono (by omega)) (by rfl) T.g__law_odd_right T.k__law_odd_right b__law_odd_right .nil pass0 (pa_cons (pv 2) pa_nil))))))) (pss_one (ps_ret pe_bl)) pss_nil))))
      (pss_one (ps_ret pe_bl))), ?body⟩)
  case len => obtain ⟨s, ns, rfl, _⟩ := h; rfl
  case body =>
    obtain ⟨s, ns, rfl, hs, hl, tabs, q⟩ := h
    refine ⟨_, rfl, s, ns, 6, rfl, hs, hl, by decide, by decide, fun l n H1 nl S1 hn hl1 => ?_⟩
    have ln : (rgV 0 n).length = n := by rw [rgV_length]; omega
    refine ⟨l, rfl, ⟨_, SqL.of hl1⟩, for_it (walk_list (xs := rgV 0 n)) (fun i σ H' => ∃ s1 s2 s3, σ = [some (.ref s), s1, s2, s3] ∧ ExtN H1 H' ∧ Tabs (TT Ph Po) H') ⟨none, none, none, rfl, ExtN.refl _, Tabs.ext tabs S1⟩ ?_ ?_ ?_⟩
    · rintro i σ H' _ ⟨s1, s2, s3, _, e, _⟩
      exact sql_ext e (SqL.of hl1)
    · rintro i x σ H' H'' hi ⟨s1, s2, s3, rfl, e, tb⟩ ⟨rfl, hx⟩
      obtain ⟨hi1, hi2⟩ := List.getElem?_eq_some_iff.mp hx
      obtain rfl : V.int (0 + (i : Nat)) = x := by
        have z := hx
        unfold rgV at z
        rw [List.getElem?_map, List.getElem?_range (by omega)] at z
        exact Option.some.inj z
      refine ⟨_, rfl, _, rfl, s, ns, 0 + (i : Nat), rfl, sql_ext e (S1.seq hs), hl, by omega, by omega, fun p H2 np S2 pot => ?_⟩
      refine ⟨2, rfl, by decide, by decide, fun D hD => ?_⟩
      have nD : D ≠ p := fun z => pot.has (by rw [← z]; exact hD)
      refine lc_range (fun i H3 => Kp p H2 H3 ∧ H3 D = some (.lst ((List.replicate i true).map V.bl)) ∧ PotAt H3 p (30 * i) ∧ Tabs (TT Ph Po) H3)
        ⟨Kp.same (same_new hD), upd_same, pot.same (same_new hD), Tabs.ext (Tabs.ext tb S2) (same_new hD)⟩ ?_ ?_
      · rintro j H3 hj ⟨k3, d3, p3, t3⟩
        refine ⟨rfl, ?_⟩
        refine ⟨_, rfl, p, 30 * j, rfl, p3, by omega, t3, fun H4 t4 k4 p4 => ?_⟩
        have d4 := k4.at d3 nD fun _ z => nomatch z
        refine ⟨_, d4, by rw [List.length_map, List.length_replicate, sizeLine_eq]; omega, (k3.trans k4).over hD, ?_, (p4.mono (by omega)).over nD, Tabs.over t4 d4⟩
        rw [upd_same, List.replicate_succ', List.map_append]; rfl
      · rintro H3 ⟨k3, d3, p3, t3⟩
        refine ⟨D, _, rfl, SqL.of d3, _, rfl, ?_⟩
        refine iteF ⟨_, rfl, p, _, rfl, p3, (by omega), t3, fun H4 t4 k4 p4 => ⟨_, rfl, iteF ?_⟩⟩
        refine ⟨_, _, _, rfl, fun b o eb t => ?_, t4⟩
        have eb' := S2 _ _ (e _ _ eb t)
        refine (k3.trans k4).at eb' (fun z => ?_) t
        have ez := e _ _ eb t
        rw [z, np] at ez
        cases ez
    · rintro σ H' ⟨s1, s2, s3, rfl, e, tb⟩
      exact q _
end
end My

namespace My
open PySem PySem.Spec PyProof.Rows L2 G LamX
abbrev s_init : Stmt := inClass (topS 2) 0
theorem sc_init : FnScope ["self", "value"] ["self", "value"] (defScope s_init) := ⟨rfl, rfl, rfl, by decide +kernel, rfl, by decide +kernel, by decide +kernel⟩
theorem ok_init {P : Program} {w : World} {K : PySem.W.Frag} {mg : Str → Option Value} {base : Heap} {f : Addr} {fd : FuncData} (F : Fun K "__init__" "AboutError.__init__" s_init f fd) : FnOk P w K mg base CX0 1 f fd ["self", "value"] (spErrInit K) := by
  refine F.ok sc_init (fun vs H Q E h => ?_) (fun cdv A outer s H vs Q E hr h => ?_)
  · obtain ⟨p, C, v, rfl, _⟩ := h
    rfl
  · obtain ⟨p, C, v, rfl, T, nv, hp, q⟩ := h
    exact ⟨_, pss_one (ps_ost (pv 0) (pv 1)), _, rfl, _, rfl, p, C, rfl, T, nv, .inl ⟨hp, fun dx h1 h2 => q dx h1 h2⟩⟩

theorem all_mk {P : Program} {w : World} {K : PySem.W.Frag} {h : Heap} {mg : Str → Option Value} {fa : Addr} (X : K.In h) (G : h.Ns mainGlobals mg) (hfa : mg "law" = some (.ref fa))
    (bare__law_is_height : Bare mg h "_law_is_height")
    (bare__law_odd_right : Bare mg h "_law_odd_right")
    {f_Ratio___radd__ f_Ratio___rsub__ f_Ratio___rmul__ : Addr}
    {C_AboutError C_BadPoint C_Off C_Ratio C_Point C_Line f_init : Addr}
    {nm_AboutError q_AboutError : Str} {N_AboutError : Addr} {bs_AboutError : List Value} {sn_AboutError : List Str} {sub_AboutError : List Value} {ab_AboutError : Bool} {col_AboutError : Option Bool} {dd_AboutError : Option Addr} {m0_AboutError m1_AboutError m2_AboutError m3_AboutError m5_AboutError : Option Value}
    {nm_BadPoint q_BadPoint : Str} {N_BadPoint : Addr} {bs_BadPoint : List Value} {sn_BadPoint : List Str} {sub_BadPoint : List Value} {ab_BadPoint : Bool} {col_BadPoint : Option Bool} {dd_BadPoint : Option Addr} {m0_BadPoint m1_BadPoint m2_BadPoint m3_BadPoint m5_BadPoint : Option Value}
    {nm_Off q_Off : Str} {N_Off : Addr} {bs_Off : List Value} {sn_Off : List Str} {sub_Off : List Value} {ab_Off : Bool} {col_Off : Option Bool} {dd_Off : Option Addr} {m0_Off m1_Off m2_Off m3_Off m5_Off : Option Value}
    {od_init an_init : Option Addr} {sl_init : Array (Option Value)} {oc_init kV_init dc_init pm_init cd_init ct_init : Value}
    {f__law_told : Addr}
    {od__law_told an__law_told : Option Addr} {sl__law_told : Array (Option Value)} {oc__law_told kV__law_told dc__law_told pm__law_told cd__law_told ct__law_told : Value}
    {f__law_pot : Addr}
    {od__law_pot an__law_pot : Option Addr} {sl__law_pot : Array (Option Value)} {oc__law_pot kV__law_pot dc__law_pot pm__law_pot cd__law_pot ct__law_pot : Value}
    {f__law_take : Addr}
    {od__law_take an__law_take : Option Addr} {sl__law_take : Array (Option Value)} {oc__law_take kV__law_take dc__law_take pm__law_take cd__law_take ct__law_take : Value}
    {f__law_of : Addr}
    {od__law_of an__law_of : Option Addr} {sl__law_of : Array (Option Value)} {oc__law_of kV__law_of dc__law_of pm__law_of cd__law_of ct__law_of : Value}
    {f__law_places : Addr}
    {od__law_places an__law_places : Option Addr} {sl__law_places : Array (Option Value)} {oc__law_places kV__law_places dc__law_places pm__law_places cd__law_places ct__law_places : Value}
    {f_is_integer : Addr}
    {od_is_integer an_is_integer : Option Addr} {sl_is_integer : Array (Option Value)} {oc_is_integer kV_is_integer dc_is_integer pm_is_integer cd_is_integer ct_is_integer : Value}
    {f_is_number : Addr}
    {od_is_number an_is_number : Option Addr} {sl_is_number : Array (Option Value)} {oc_is_number kV_is_number dc_is_number pm_is_number cd_is_number ct_is_number : Value}
    {f_Ratio___init__ : Addr}
    {od_Ratio___init__ an_Ratio___init__ : Option Addr} {sl_Ratio___init__ : Array (Option Value)} {oc_Ratio___init__ kV_Ratio___init__ dc_Ratio___init__ pm_Ratio___init__ cd_Ratio___init__ ct_Ratio___init__ : Value}
    {dT_Ratio___init__ : Addr} {cT_Ratio___init__ : Value} {eT_Ratio___init__ : Option Addr} {its_Ratio___init__ : List Value} {mT_Ratio___init__ : Nat} {sT_Ratio___init__ : Array (Option Value)}
    {f_as_ratio : Addr}
    {od_as_ratio an_as_ratio : Option Addr} {sl_as_ratio : Array (Option Value)} {oc_as_ratio kV_as_ratio dc_as_ratio pm_as_ratio cd_as_ratio ct_as_ratio : Value}
    {f_difference : Addr}
    {od_difference an_difference : Option Addr} {sl_difference : Array (Option Value)} {oc_difference kV_difference dc_difference pm_difference cd_difference ct_difference : Value}
    {f_Ratio_divided : Addr}
    {od_Ratio_divided an_Ratio_divided : Option Addr} {sl_Ratio_divided : Array (Option Value)} {oc_Ratio_divided kV_Ratio_divided dc_Ratio_divided pm_Ratio_divided cd_Ratio_divided ct_Ratio_divided : Value}
    {f_Ratio___add__ : Addr}
    {od_Ratio___add__ an_Ratio___add__ : Option Addr} {sl_Ratio___add__ : Array (Option Value)} {oc_Ratio___add__ kV_Ratio___add__ dc_Ratio___add__ pm_Ratio___add__ cd_Ratio___add__ ct_Ratio___add__ : Value}
    {f_Ratio___sub__ : Addr}
    {od_Ratio___sub__ an_Ratio___sub__ : Option Addr} {sl_Ratio___sub__ : Array (Option Value)} {oc_Ratio___sub__ kV_Ratio___sub__ dc_Ratio___sub__ pm_Ratio___sub__ cd_Ratio___sub__ ct_Ratio___sub__ : Value}
    {f_Ratio___mul__ : Addr}
    {od_Ratio___mul__ an_Ratio___mul__ : Option Addr} {sl_Ratio___mul__ : Array (Option Value)} {oc_Ratio___mul__ kV_Ratio___mul__ dc_Ratio___mul__ pm_Ratio___mul__ cd_Ratio___mul__ ct_Ratio___mul__ : Value}
    {f_Ratio___eq__ : Addr}
    {od_Ratio___eq__ an_Ratio___eq__ : Option Addr} {sl_Ratio___eq__ : Array (Option Value)} {oc_Ratio___eq__ kV_Ratio___eq__ dc_Ratio___eq__ pm_Ratio___eq__ cd_Ratio___eq__ ct_Ratio___eq__ : Value}
    {f__law_common : Addr}
    {od__law_common an__law_common : Option Addr} {sl__law_common : Array (Option Value)} {oc__law_common kV__law_common dc__law_common pm__law_common cd__law_common ct__law_common : Value}
    {f__law_pair : Addr}
    {od__law_pair an__law_pair : Option Addr} {sl__law_pair : Array (Option Value)} {oc__law_pair kV__law_pair dc__law_pair pm__law_pair cd__law_pair ct__law_pair : Value}
    {f__law_spot : Addr}
    {od__law_spot an__law_spot : Option Addr} {sl__law_spot : Array (Option Value)} {oc__law_spot kV__law_spot dc__law_spot pm__law_spot cd__law_spot ct__law_spot : Value}
    {f__law_pair_of : Addr}
    {od__law_pair_of an__law_pair_of : Option Addr} {sl__law_pair_of : Array (Option Value)} {oc__law_pair_of kV__law_pair_of dc__law_pair_of pm__law_pair_of cd__law_pair_of ct__law_pair_of : Value}
    {f__law_odd : Addr}
    {od__law_odd an__law_odd : Option Addr} {sl__law_odd : Array (Option Value)} {oc__law_odd kV__law_odd dc__law_odd pm__law_odd cd__law_odd ct__law_odd : Value}
    {f_check_point : Addr}
    {od_check_point an_check_point : Option Addr} {sl_check_point : Array (Option Value)} {oc_check_point kV_check_point dc_check_point pm_check_point cd_check_point ct_check_point : Value}
    {f_Point___init__ : Addr}
    {od_Point___init__ an_Point___init__ : Option Addr} {sl_Point___init__ : Array (Option Value)} {oc_Point___init__ kV_Point___init__ dc_Point___init__ pm_Point___init__ cd_Point___init__ ct_Point___init__ : Value}
    {f_Point___eq__ : Addr}
    {od_Point___eq__ an_Point___eq__ : Option Addr} {sl_Point___eq__ : Array (Option Value)} {oc_Point___eq__ kV_Point___eq__ dc_Point___eq__ pm_Point___eq__ cd_Point___eq__ ct_Point___eq__ : Value}
    {f_Point___sub__ : Addr}
    {od_Point___sub__ an_Point___sub__ : Option Addr} {sl_Point___sub__ : Array (Option Value)} {oc_Point___sub__ kV_Point___sub__ dc_Point___sub__ pm_Point___sub__ cd_Point___sub__ ct_Point___sub__ : Value}
    {f_Point_towards : Addr}
    {od_Point_towards an_Point_towards : Option Addr} {sl_Point_towards : Array (Option Value)} {oc_Point_towards kV_Point_towards dc_Point_towards pm_Point_towards cd_Point_towards ct_Point_towards : Value}
    {f_Line___init__ : Addr}
    {od_Line___init__ an_Line___init__ : Option Addr} {sl_Line___init__ : Array (Option Value)} {oc_Line___init__ kV_Line___init__ dc_Line___init__ pm_Line___init__ cd_Line___init__ ct_Line___init__ : Value}
    {f_Line_height : Addr}
    {od_Line_height an_Line_height : Option Addr} {sl_Line_height : Array (Option Value)} {oc_Line_height kV_Line_height dc_Line_height pm_Line_height cd_Line_height ct_Line_height : Value}
    {f_Line_share : Addr}
    {od_Line_share an_Line_share : Option Addr} {sl_Line_share : Array (Option Value)} {oc_Line_share kV_Line_share dc_Line_share pm_Line_share cd_Line_share ct_Line_share : Value}
    {f_Line___and__ : Addr}
    {od_Line___and__ an_Line___and__ : Option Addr} {sl_Line___and__ : Array (Option Value)} {oc_Line___and__ kV_Line___and__ dc_Line___and__ pm_Line___and__ cd_Line___and__ ct_Line___and__ : Value}
    {f_Line___eq__ : Addr}
    {od_Line___eq__ an_Line___eq__ : Option Addr} {sl_Line___eq__ : Array (Option Value)} {oc_Line___eq__ kV_Line___eq__ dc_Line___eq__ pm_Line___eq__ cd_Line___eq__ ct_Line___eq__ : Value}
    {f__law_made_point : Addr}
    {od__law_made_point an__law_made_point : Option Addr} {sl__law_made_point : Array (Option Value)} {oc__law_made_point kV__law_made_point dc__law_made_point pm__law_made_point cd__law_made_point ct__law_made_point : Value}
    {f__law_spot_of : Addr}
    {od__law_spot_of an__law_spot_of : Option Addr} {sl__law_spot_of : Array (Option Value)} {oc__law_spot_of kV__law_spot_of dc__law_spot_of pm__law_spot_of cd__law_spot_of ct__law_spot_of : Value}
    {f__law_spot_near : Addr}
    {od__law_spot_near an__law_spot_near : Option Addr} {sl__law_spot_near : Array (Option Value)} {oc__law_spot_near kV__law_spot_near dc__law_spot_near pm__law_spot_near cd__law_spot_near ct__law_spot_near : Value}
    {f__law_other_spot : Addr}
    {od__law_other_spot an__law_other_spot : Option Addr} {sl__law_other_spot : Array (Option Value)} {oc__law_other_spot kV__law_other_spot dc__law_other_spot pm__law_other_spot cd__law_other_spot ct__law_other_spot : Value}
    {f__law_difference : Addr}
    {od__law_difference an__law_difference : Option Addr} {sl__law_difference : Array (Option Value)} {oc__law_difference kV__law_difference dc__law_difference pm__law_difference cd__law_difference ct__law_difference : Value}
    {f__law_cross_of : Addr}
    {od__law_cross_of an__law_cross_of : Option Addr} {sl__law_cross_of : Array (Option Value)} {oc__law_cross_of kV__law_cross_of dc__law_cross_of pm__law_cross_of cd__law_cross_of ct__law_cross_of : Value}
    {f__law_along : Addr}
    {od__law_along an__law_along : Option Addr} {sl__law_along : Array (Option Value)} {oc__law_along kV__law_along dc__law_along pm__law_along cd__law_along ct__law_along : Value}
    {f__law_meets : Addr}
    {od__law_meets an__law_meets : Option Addr} {sl__law_meets : Array (Option Value)} {oc__law_meets kV__law_meets dc__law_meets pm__law_meets cd__law_meets ct__law_meets : Value}
    {f__law_beside : Addr}
    {od__law_beside an__law_beside : Option Addr} {sl__law_beside : Array (Option Value)} {oc__law_beside kV__law_beside dc__law_beside pm__law_beside cd__law_beside ct__law_beside : Value}
    {f__law_is_height : Addr}
    {od__law_is_height an__law_is_height : Option Addr} {sl__law_is_height : Array (Option Value)} {oc__law_is_height kV__law_is_height dc__law_is_height pm__law_is_height  ct__law_is_height : Value}
    {cA__law_is_height Pt__law_is_height : Addr} {eC__law_is_height : Value} {dC__law_is_height : Option Addr} {vC__law_is_height : Array Value} {sC__law_is_height : Array (Option Value)}
    {f__law_right : Addr}
    {od__law_right an__law_right : Option Addr} {sl__law_right : Array (Option Value)} {oc__law_right kV__law_right dc__law_right pm__law_right cd__law_right ct__law_right : Value}
    {f__law_odd_right : Addr}
    {od__law_odd_right an__law_odd_right : Option Addr} {sl__law_odd_right : Array (Option Value)} {oc__law_odd_right kV__law_odd_right dc__law_odd_right pm__law_odd_right  ct__law_odd_right : Value}
    {cA__law_odd_right Pt__law_odd_right : Addr} {eC__law_odd_right : Value} {dC__law_odd_right : Option Addr} {vC__law_odd_right : Array Value} {sC__law_odd_right : Array (Option Value)}
    {f_law : Addr}
    {od_law an_law : Option Addr} {sl_law : Array (Option Value)} {oc_law kV_law dc_law pm_law cd_law ct_law : Value}
    (n_abs : PySem.W.nsIn K mainGlobals "abs" = some none)
    (n_all : PySem.W.nsIn K mainGlobals "all" = some none)
    (n_bool : PySem.W.nsIn K mainGlobals "bool" = some none)
    (n_int : PySem.W.nsIn K mainGlobals "int" = some none)
    (n_isinstance : PySem.W.nsIn K mainGlobals "isinstance" = some none)
    (n_len : PySem.W.nsIn K mainGlobals "len" = some none)
    (n_list : PySem.W.nsIn K mainGlobals "list" = some none)
    (n_max : PySem.W.nsIn K mainGlobals "max" = some none)
    (n_min : PySem.W.nsIn K mainGlobals "min" = some none)
    (n_range : PySem.W.nsIn K mainGlobals "range" = some none)
    (n_repr : PySem.W.nsIn K mainGlobals "repr" = some none)
    (gG : PySem.W.nsIn K mainGlobals "gcd" = some (some (.builtin "math.gcd")))
    (g_AboutError : PySem.W.nsIn K mainGlobals "AboutError" = some (some (.ref C_AboutError)))
    (g_BadPoint : PySem.W.nsIn K mainGlobals "BadPoint" = some (some (.ref C_BadPoint)))
    (g_Off : PySem.W.nsIn K mainGlobals "Off" = some (some (.ref C_Off)))
    (x_AboutError : K.lookup C_AboutError = some (excClassObj nm_AboutError q_AboutError C_AboutError N_AboutError bs_AboutError [.type "ValueError", .type "Exception", .type "BaseException", .type "object"] true sn_AboutError sub_AboutError ab_AboutError col_AboutError dd_AboutError m0_AboutError m1_AboutError m2_AboutError m3_AboutError m5_AboutError "ValueError.__new__"))
    (x_BadPoint : K.lookup C_BadPoint = some (excClassObj nm_BadPoint q_BadPoint C_BadPoint N_BadPoint bs_BadPoint (.ref C_AboutError :: [.type "ValueError", .type "Exception", .type "BaseException", .type "object"]) true sn_BadPoint sub_BadPoint ab_BadPoint col_BadPoint dd_BadPoint m0_BadPoint m1_BadPoint m2_BadPoint m3_BadPoint m5_BadPoint "ValueError.__new__"))
    (x_Off : K.lookup C_Off = some (excClassObj nm_Off q_Off C_Off N_Off bs_Off (.ref C_AboutError :: [.type "ValueError", .type "Exception", .type "BaseException", .type "object"]) true sn_Off sub_Off ab_Off col_Off dd_Off m0_Off m1_Off m2_Off m3_Off m5_Off "ValueError.__new__"))
    (i0 : PySem.W.findIn K (.ref C_AboutError) "__init__" = some (some (.ref f_init)))
    (tI : PySem.W.typeIn K (.ref f_init) = some (.type "function"))
    (sp : PySem.W.specialIn K (.builtin "object.__class__") "__get__" = some (some (.builtin "getset_descriptor.__get__")))
    (tk : PySem.W.takesIn K (.builtin "object.__class__") = some true)
    (eb : ([C_AboutError, C_BadPoint, C_Off].all fun C => ecB K f_init C) = true)
    (g_Ratio : PySem.W.nsIn K mainGlobals "Ratio" = some (some (.ref C_Ratio)))
    (g_Point : PySem.W.nsIn K mainGlobals "Point" = some (some (.ref C_Point)))
    (g_Line : PySem.W.nsIn K mainGlobals "Line" = some (some (.ref C_Line)))
    (l_init : K.lookup f_init = some ⟨oc_init, od_init, .func (PySem.W.fnOf "__init__" "AboutError.__init__" (defArgs s_init) (defBody s_init) (defScope s_init) .none kV_init dc_init pm_init an_init cd_init ct_init), sl_init⟩)
    (c_init : PySem.W.codeIn K cd_init "AboutError.__init__" = true)
    (k_init : PySem.W.keepIn K (.ref f_init) = true)
    (g__law_told : PySem.W.nsIn K mainGlobals "_law_told" = some (some (.ref f__law_told)))
    (l__law_told : K.lookup f__law_told = some ⟨oc__law_told, od__law_told, .func (PySem.W.fnOf "_law_told" "_law_told" (defArgs s__law_told) (defBody s__law_told) (defScope s__law_told) .none kV__law_told dc__law_told pm__law_told an__law_told cd__law_told ct__law_told), sl__law_told⟩)
    (c__law_told : PySem.W.codeIn K cd__law_told "_law_told" = true)
    (k__law_told : PySem.W.keepIn K (.ref f__law_told) = true)
    (g__law_pot : PySem.W.nsIn K mainGlobals "_law_pot" = some (some (.ref f__law_pot)))
    (l__law_pot : K.lookup f__law_pot = some ⟨oc__law_pot, od__law_pot, .func (PySem.W.fnOf "_law_pot" "_law_pot" (defArgs s__law_pot) (defBody s__law_pot) (defScope s__law_pot) .none kV__law_pot dc__law_pot pm__law_pot an__law_pot cd__law_pot ct__law_pot), sl__law_pot⟩)
    (c__law_pot : PySem.W.codeIn K cd__law_pot "_law_pot" = true)
    (k__law_pot : PySem.W.keepIn K (.ref f__law_pot) = true)
    (g__law_take : PySem.W.nsIn K mainGlobals "_law_take" = some (some (.ref f__law_take)))
    (l__law_take : K.lookup f__law_take = some ⟨oc__law_take, od__law_take, .func (PySem.W.fnOf "_law_take" "_law_take" (defArgs s__law_take) (defBody s__law_take) (defScope s__law_take) .none kV__law_take dc__law_take pm__law_take an__law_take cd__law_take ct__law_take), sl__law_take⟩)
    (c__law_take : PySem.W.codeIn K cd__law_take "_law_take" = true)
    (k__law_take : PySem.W.keepIn K (.ref f__law_take) = true)
    (g__law_of : PySem.W.nsIn K mainGlobals "_law_of" = some (some (.ref f__law_of)))
    (l__law_of : K.lookup f__law_of = some ⟨oc__law_of, od__law_of, .func (PySem.W.fnOf "_law_of" "_law_of" (defArgs s__law_of) (defBody s__law_of) (defScope s__law_of) .none kV__law_of dc__law_of pm__law_of an__law_of cd__law_of ct__law_of), sl__law_of⟩)
    (c__law_of : PySem.W.codeIn K cd__law_of "_law_of" = true)
    (k__law_of : PySem.W.keepIn K (.ref f__law_of) = true)
    (g__law_places : PySem.W.nsIn K mainGlobals "_law_places" = some (some (.ref f__law_places)))
    (l__law_places : K.lookup f__law_places = some ⟨oc__law_places, od__law_places, .func (PySem.W.fnOf "_law_places" "_law_places" (defArgs s__law_places) (defBody s__law_places) (defScope s__law_places) .none kV__law_places dc__law_places pm__law_places an__law_places cd__law_places ct__law_places), sl__law_places⟩)
    (c__law_places : PySem.W.codeIn K cd__law_places "_law_places" = true)
    (k__law_places : PySem.W.keepIn K (.ref f__law_places) = true)
    (g_is_integer : PySem.W.nsIn K mainGlobals "is_integer" = some (some (.ref f_is_integer)))
    (l_is_integer : K.lookup f_is_integer = some ⟨oc_is_integer, od_is_integer, .func (PySem.W.fnOf "is_integer" "is_integer" (defArgs s_is_integer) (defBody s_is_integer) (defScope s_is_integer) .none kV_is_integer dc_is_integer pm_is_integer an_is_integer cd_is_integer ct_is_integer), sl_is_integer⟩)
    (c_is_integer : PySem.W.codeIn K cd_is_integer "is_integer" = true)
    (k_is_integer : PySem.W.keepIn K (.ref f_is_integer) = true)
    (g_is_number : PySem.W.nsIn K mainGlobals "is_number" = some (some (.ref f_is_number)))
    (l_is_number : K.lookup f_is_number = some ⟨oc_is_number, od_is_number, .func (PySem.W.fnOf "is_number" "is_number" (defArgs s_is_number) (defBody s_is_number) (defScope s_is_number) .none kV_is_number dc_is_number pm_is_number an_is_number cd_is_number ct_is_number), sl_is_number⟩)
    (c_is_number : PySem.W.codeIn K cd_is_number "is_number" = true)
    (k_is_number : PySem.W.keepIn K (.ref f_is_number) = true)
    (g_Ratio___init__ : PySem.W.findIn K (.ref C_Ratio) "__init__" = some (some (.ref f_Ratio___init__)))
    (l_Ratio___init__ : K.lookup f_Ratio___init__ = some ⟨oc_Ratio___init__, od_Ratio___init__, .func (PySem.W.fnOf "__init__" "Ratio.__init__" (defArgs s_Ratio___init__) (defBody s_Ratio___init__) (defScope s_Ratio___init__) (.ref dT_Ratio___init__) kV_Ratio___init__ dc_Ratio___init__ pm_Ratio___init__ an_Ratio___init__ cd_Ratio___init__ ct_Ratio___init__), sl_Ratio___init__⟩)
    (c_Ratio___init__ : PySem.W.codeIn K cd_Ratio___init__ "Ratio.__init__" = true)
    (k_Ratio___init__ : PySem.W.keepIn K (.ref f_Ratio___init__) = true)
    (d_Ratio___init__ : K.lookup dT_Ratio___init__ = some ⟨cT_Ratio___init__, eT_Ratio___init__, .seq its_Ratio___init__.toArray mT_Ratio___init__, sT_Ratio___init__⟩)
    (r_Ratio___init__ : Vals [.int 1] its_Ratio___init__)
    (g_as_ratio : PySem.W.nsIn K mainGlobals "as_ratio" = some (some (.ref f_as_ratio)))
    (l_as_ratio : K.lookup f_as_ratio = some ⟨oc_as_ratio, od_as_ratio, .func (PySem.W.fnOf "as_ratio" "as_ratio" (defArgs s_as_ratio) (defBody s_as_ratio) (defScope s_as_ratio) .none kV_as_ratio dc_as_ratio pm_as_ratio an_as_ratio cd_as_ratio ct_as_ratio), sl_as_ratio⟩)
    (c_as_ratio : PySem.W.codeIn K cd_as_ratio "as_ratio" = true)
    (k_as_ratio : PySem.W.keepIn K (.ref f_as_ratio) = true)
    (g_difference : PySem.W.nsIn K mainGlobals "difference" = some (some (.ref f_difference)))
    (l_difference : K.lookup f_difference = some ⟨oc_difference, od_difference, .func (PySem.W.fnOf "difference" "difference" (defArgs s_difference) (defBody s_difference) (defScope s_difference) .none kV_difference dc_difference pm_difference an_difference cd_difference ct_difference), sl_difference⟩)
    (c_difference : PySem.W.codeIn K cd_difference "difference" = true)
    (k_difference : PySem.W.keepIn K (.ref f_difference) = true)
    (g_Ratio_divided : PySem.W.findIn K (.ref C_Ratio) "divided" = some (some (.ref f_Ratio_divided)))
    (l_Ratio_divided : K.lookup f_Ratio_divided = some ⟨oc_Ratio_divided, od_Ratio_divided, .func (PySem.W.fnOf "divided" "Ratio.divided" (defArgs s_Ratio_divided) (defBody s_Ratio_divided) (defScope s_Ratio_divided) .none kV_Ratio_divided dc_Ratio_divided pm_Ratio_divided an_Ratio_divided cd_Ratio_divided ct_Ratio_divided), sl_Ratio_divided⟩)
    (c_Ratio_divided : PySem.W.codeIn K cd_Ratio_divided "Ratio.divided" = true)
    (k_Ratio_divided : PySem.W.keepIn K (.ref f_Ratio_divided) = true)
    (g_Ratio___add__ : PySem.W.findIn K (.ref C_Ratio) "__add__" = some (some (.ref f_Ratio___add__)))
    (l_Ratio___add__ : K.lookup f_Ratio___add__ = some ⟨oc_Ratio___add__, od_Ratio___add__, .func (PySem.W.fnOf "__add__" "Ratio.__add__" (defArgs s_Ratio___add__) (defBody s_Ratio___add__) (defScope s_Ratio___add__) .none kV_Ratio___add__ dc_Ratio___add__ pm_Ratio___add__ an_Ratio___add__ cd_Ratio___add__ ct_Ratio___add__), sl_Ratio___add__⟩)
    (c_Ratio___add__ : PySem.W.codeIn K cd_Ratio___add__ "Ratio.__add__" = true)
    (k_Ratio___add__ : PySem.W.keepIn K (.ref f_Ratio___add__) = true)
    (g_Ratio___sub__ : PySem.W.findIn K (.ref C_Ratio) "__sub__" = some (some (.ref f_Ratio___sub__)))
    (l_Ratio___sub__ : K.lookup f_Ratio___sub__ = some ⟨oc_Ratio___sub__, od_Ratio___sub__, .func (PySem.W.fnOf "__sub__" "Ratio.__sub__" (defArgs s_Ratio___sub__) (defBody s_Ratio___sub__) (defScope s_Ratio___sub__) .none kV_Ratio___sub__ dc_Ratio___sub__ pm_Ratio___sub__ an_Ratio___sub__ cd_Ratio___sub__ ct_Ratio___sub__), sl_Ratio___sub__⟩)
    (c_Ratio___sub__ : PySem.W.codeIn K cd_Ratio___sub__ "Ratio.__sub__" = true)
    (k_Ratio___sub__ : PySem.W.keepIn K (.ref f_Ratio___sub__) = true)
    (g_Ratio___mul__ : PySem.W.findIn K (.ref C_Ratio) "__mul__" = some (some (.ref f_Ratio___mul__)))
    (l_Ratio___mul__ : K.lookup f_Ratio___mul__ = some ⟨oc_Ratio___mul__, od_Ratio___mul__, .func (PySem.W.fnOf "__mul__" "Ratio.__mul__" (defArgs s_Ratio___mul__) (defBody s_Ratio___mul__) (defScope s_Ratio___mul__) .none kV_Ratio___mul__ dc_Ratio___mul__ pm_Ratio___mul__ an_Ratio___mul__ cd_Ratio___mul__ ct_Ratio___mul__), sl_Ratio___mul__⟩)
    (c_Ratio___mul__ : PySem.W.codeIn K cd_Ratio___mul__ "Ratio.__mul__" = true)
    (k_Ratio___mul__ : PySem.W.keepIn K (.ref f_Ratio___mul__) = true)
    (g_Ratio___eq__ : PySem.W.findIn K (.ref C_Ratio) "__eq__" = some (some (.ref f_Ratio___eq__)))
    (l_Ratio___eq__ : K.lookup f_Ratio___eq__ = some ⟨oc_Ratio___eq__, od_Ratio___eq__, .func (PySem.W.fnOf "__eq__" "Ratio.__eq__" (defArgs s_Ratio___eq__) (defBody s_Ratio___eq__) (defScope s_Ratio___eq__) .none kV_Ratio___eq__ dc_Ratio___eq__ pm_Ratio___eq__ an_Ratio___eq__ cd_Ratio___eq__ ct_Ratio___eq__), sl_Ratio___eq__⟩)
    (c_Ratio___eq__ : PySem.W.codeIn K cd_Ratio___eq__ "Ratio.__eq__" = true)
    (k_Ratio___eq__ : PySem.W.keepIn K (.ref f_Ratio___eq__) = true)
    (g__law_common : PySem.W.nsIn K mainGlobals "_law_common" = some (some (.ref f__law_common)))
    (l__law_common : K.lookup f__law_common = some ⟨oc__law_common, od__law_common, .func (PySem.W.fnOf "_law_common" "_law_common" (defArgs s__law_common) (defBody s__law_common) (defScope s__law_common) .none kV__law_common dc__law_common pm__law_common an__law_common cd__law_common ct__law_common), sl__law_common⟩)
    (c__law_common : PySem.W.codeIn K cd__law_common "_law_common" = true)
    (k__law_common : PySem.W.keepIn K (.ref f__law_common) = true)
    (g__law_pair : PySem.W.nsIn K mainGlobals "_law_pair" = some (some (.ref f__law_pair)))
    (l__law_pair : K.lookup f__law_pair = some ⟨oc__law_pair, od__law_pair, .func (PySem.W.fnOf "_law_pair" "_law_pair" (defArgs s__law_pair) (defBody s__law_pair) (defScope s__law_pair) .none kV__law_pair dc__law_pair pm__law_pair an__law_pair cd__law_pair ct__law_pair), sl__law_pair⟩)
    (c__law_pair : PySem.W.codeIn K cd__law_pair "_law_pair" = true)
    (k__law_pair : PySem.W.keepIn K (.ref f__law_pair) = true)
    (g__law_spot : PySem.W.nsIn K mainGlobals "_law_spot" = some (some (.ref f__law_spot)))
    (l__law_spot : K.lookup f__law_spot = some ⟨oc__law_spot, od__law_spot, .func (PySem.W.fnOf "_law_spot" "_law_spot" (defArgs s__law_spot) (defBody s__law_spot) (defScope s__law_spot) .none kV__law_spot dc__law_spot pm__law_spot an__law_spot cd__law_spot ct__law_spot), sl__law_spot⟩)
    (c__law_spot : PySem.W.codeIn K cd__law_spot "_law_spot" = true)
    (k__law_spot : PySem.W.keepIn K (.ref f__law_spot) = true)
    (g__law_pair_of : PySem.W.nsIn K mainGlobals "_law_pair_of" = some (some (.ref f__law_pair_of)))
    (l__law_pair_of : K.lookup f__law_pair_of = some ⟨oc__law_pair_of, od__law_pair_of, .func (PySem.W.fnOf "_law_pair_of" "_law_pair_of" (defArgs s__law_pair_of) (defBody s__law_pair_of) (defScope s__law_pair_of) .none kV__law_pair_of dc__law_pair_of pm__law_pair_of an__law_pair_of cd__law_pair_of ct__law_pair_of), sl__law_pair_of⟩)
    (c__law_pair_of : PySem.W.codeIn K cd__law_pair_of "_law_pair_of" = true)
    (k__law_pair_of : PySem.W.keepIn K (.ref f__law_pair_of) = true)
    (g__law_odd : PySem.W.nsIn K mainGlobals "_law_odd" = some (some (.ref f__law_odd)))
    (l__law_odd : K.lookup f__law_odd = some ⟨oc__law_odd, od__law_odd, .func (PySem.W.fnOf "_law_odd" "_law_odd" (defArgs s__law_odd) (defBody s__law_odd) (defScope s__law_odd) .none kV__law_odd dc__law_odd pm__law_odd an__law_odd cd__law_odd ct__law_odd), sl__law_odd⟩)
    (c__law_odd : PySem.W.codeIn K cd__law_odd "_law_odd" = true)
    (k__law_odd : PySem.W.keepIn K (.ref f__law_odd) = true)
    (g_check_point : PySem.W.nsIn K mainGlobals "check_point" = some (some (.ref f_check_point)))
    (l_check_point : K.lookup f_check_point = some ⟨oc_check_point, od_check_point, .func (PySem.W.fnOf "check_point" "check_point" (defArgs s_check_point) (defBody s_check_point) (defScope s_check_point) .none kV_check_point dc_check_point pm_check_point an_check_point cd_check_point ct_check_point), sl_check_point⟩)
    (c_check_point : PySem.W.codeIn K cd_check_point "check_point" = true)
    (k_check_point : PySem.W.keepIn K (.ref f_check_point) = true)
    (g_Point___init__ : PySem.W.findIn K (.ref C_Point) "__init__" = some (some (.ref f_Point___init__)))
    (l_Point___init__ : K.lookup f_Point___init__ = some ⟨oc_Point___init__, od_Point___init__, .func (PySem.W.fnOf "__init__" "Point.__init__" (defArgs s_Point___init__) (defBody s_Point___init__) (defScope s_Point___init__) .none kV_Point___init__ dc_Point___init__ pm_Point___init__ an_Point___init__ cd_Point___init__ ct_Point___init__), sl_Point___init__⟩)
    (c_Point___init__ : PySem.W.codeIn K cd_Point___init__ "Point.__init__" = true)
    (k_Point___init__ : PySem.W.keepIn K (.ref f_Point___init__) = true)
    (g_Point___eq__ : PySem.W.findIn K (.ref C_Point) "__eq__" = some (some (.ref f_Point___eq__)))
    (l_Point___eq__ : K.lookup f_Point___eq__ = some ⟨oc_Point___eq__, od_Point___eq__, .func (PySem.W.fnOf "__eq__" "Point.__eq__" (defArgs s_Point___eq__) (defBody s_Point___eq__) (defScope s_Point___eq__) .none kV_Point___eq__ dc_Point___eq__ pm_Point___eq__ an_Point___eq__ cd_Point___eq__ ct_Point___eq__), sl_Point___eq__⟩)
    (c_Point___eq__ : PySem.W.codeIn K cd_Point___eq__ "Point.__eq__" = true)
    (k_Point___eq__ : PySem.W.keepIn K (.ref f_Point___eq__) = true)
    (g_Point___sub__ : PySem.W.findIn K (.ref C_Point) "__sub__" = some (some (.ref f_Point___sub__)))
    (l_Point___sub__ : K.lookup f_Point___sub__ = some ⟨oc_Point___sub__, od_Point___sub__, .func (PySem.W.fnOf "__sub__" "Point.__sub__" (defArgs s_Point___sub__) (defBody s_Point___sub__) (defScope s_Point___sub__) .none kV_Point___sub__ dc_Point___sub__ pm_Point___sub__ an_Point___sub__ cd_Point___sub__ ct_Point___sub__), sl_Point___sub__⟩)
    (c_Point___sub__ : PySem.W.codeIn K cd_Point___sub__ "Point.__sub__" = true)
    (k_Point___sub__ : PySem.W.keepIn K (.ref f_Point___sub__) = true)
    (g_Point_towards : PySem.W.findIn K (.ref C_Point) "towards" = some (some (.ref f_Point_towards)))
    (l_Point_towards : K.lookup f_Point_towards = some ⟨oc_Point_towards, od_Point_towards, .func (PySem.W.fnOf "towards" "Point.towards" (defArgs s_Point_towards) (defBody s_Point_towards) (defScope s_Point_towards) .none kV_Point_towards dc_Point_towards pm_Point_towards an_Point_towards cd_Point_towards ct_Point_towards), sl_Point_towards⟩)
    (c_Point_towards : PySem.W.codeIn K cd_Point_towards "Point.towards" = true)
    (k_Point_towards : PySem.W.keepIn K (.ref f_Point_towards) = true)
    (g_Line___init__ : PySem.W.findIn K (.ref C_Line) "__init__" = some (some (.ref f_Line___init__)))
    (l_Line___init__ : K.lookup f_Line___init__ = some ⟨oc_Line___init__, od_Line___init__, .func (PySem.W.fnOf "__init__" "Line.__init__" (defArgs s_Line___init__) (defBody s_Line___init__) (defScope s_Line___init__) .none kV_Line___init__ dc_Line___init__ pm_Line___init__ an_Line___init__ cd_Line___init__ ct_Line___init__), sl_Line___init__⟩)
    (c_Line___init__ : PySem.W.codeIn K cd_Line___init__ "Line.__init__" = true)
    (k_Line___init__ : PySem.W.keepIn K (.ref f_Line___init__) = true)
    (g_Line_height : PySem.W.findIn K (.ref C_Line) "height" = some (some (.ref f_Line_height)))
    (l_Line_height : K.lookup f_Line_height = some ⟨oc_Line_height, od_Line_height, .func (PySem.W.fnOf "height" "Line.height" (defArgs s_Line_height) (defBody s_Line_height) (defScope s_Line_height) .none kV_Line_height dc_Line_height pm_Line_height an_Line_height cd_Line_height ct_Line_height), sl_Line_height⟩)
    (c_Line_height : PySem.W.codeIn K cd_Line_height "Line.height" = true)
    (k_Line_height : PySem.W.keepIn K (.ref f_Line_height) = true)
    (g_Line_share : PySem.W.findIn K (.ref C_Line) "share" = some (some (.ref f_Line_share)))
    (l_Line_share : K.lookup f_Line_share = some ⟨oc_Line_share, od_Line_share, .func (PySem.W.fnOf "share" "Line.share" (defArgs s_Line_share) (defBody s_Line_share) (defScope s_Line_share) .none kV_Line_share dc_Line_share pm_Line_share an_Line_share cd_Line_share ct_Line_share), sl_Line_share⟩)
    (c_Line_share : PySem.W.codeIn K cd_Line_share "Line.share" = true)
    (k_Line_share : PySem.W.keepIn K (.ref f_Line_share) = true)
    (g_Line___and__ : PySem.W.findIn K (.ref C_Line) "__and__" = some (some (.ref f_Line___and__)))
    (l_Line___and__ : K.lookup f_Line___and__ = some ⟨oc_Line___and__, od_Line___and__, .func (PySem.W.fnOf "__and__" "Line.__and__" (defArgs s_Line___and__) (defBody s_Line___and__) (defScope s_Line___and__) .none kV_Line___and__ dc_Line___and__ pm_Line___and__ an_Line___and__ cd_Line___and__ ct_Line___and__), sl_Line___and__⟩)
    (c_Line___and__ : PySem.W.codeIn K cd_Line___and__ "Line.__and__" = true)
    (k_Line___and__ : PySem.W.keepIn K (.ref f_Line___and__) = true)
    (g_Line___eq__ : PySem.W.findIn K (.ref C_Line) "__eq__" = some (some (.ref f_Line___eq__)))
    (l_Line___eq__ : K.lookup f_Line___eq__ = some ⟨oc_Line___eq__, od_Line___eq__, .func (PySem.W.fnOf "__eq__" "Line.__eq__" (defArgs s_Line___eq__) (defBody s_Line___eq__) (defScope s_Line___eq__) .none kV_Line___eq__ dc_Line___eq__ pm_Line___eq__ an_Line___eq__ cd_Line___eq__ ct_Line___eq__), sl_Line___eq__⟩)
    (c_Line___eq__ : PySem.W.codeIn K cd_Line___eq__ "Line.__eq__" = true)
    (k_Line___eq__ : PySem.W.keepIn K (.ref f_Line___eq__) = true)
    (g__law_made_point : PySem.W.nsIn K mainGlobals "_law_made_point" = some (some (.ref f__law_made_point)))
    (l__law_made_point : K.lookup f__law_made_point = some ⟨oc__law_made_point, od__law_made_point, .func (PySem.W.fnOf "_law_made_point" "_law_made_point" (defArgs s__law_made_point) (defBody s__law_made_point) (defScope s__law_made_point) .none kV__law_made_point dc__law_made_point pm__law_made_point an__law_made_point cd__law_made_point ct__law_made_point), sl__law_made_point⟩)
    (c__law_made_point : PySem.W.codeIn K cd__law_made_point "_law_made_point" = true)
    (k__law_made_point : PySem.W.keepIn K (.ref f__law_made_point) = true)
    (g__law_spot_of : PySem.W.nsIn K mainGlobals "_law_spot_of" = some (some (.ref f__law_spot_of)))
    (l__law_spot_of : K.lookup f__law_spot_of = some ⟨oc__law_spot_of, od__law_spot_of, .func (PySem.W.fnOf "_law_spot_of" "_law_spot_of" (defArgs s__law_spot_of) (defBody s__law_spot_of) (defScope s__law_spot_of) .none kV__law_spot_of dc__law_spot_of pm__law_spot_of an__law_spot_of cd__law_spot_of ct__law_spot_of), sl__law_spot_of⟩)
    (c__law_spot_of : PySem.W.codeIn K cd__law_spot_of "_law_spot_of" = true)
    (k__law_spot_of : PySem.W.keepIn K (.ref f__law_spot_of) = true)
    (g__law_spot_near : PySem.W.nsIn K mainGlobals "_law_spot_near" = some (some (.ref f__law_spot_near)))
    (l__law_spot_near : K.lookup f__law_spot_near = some ⟨oc__law_spot_near, od__law_spot_near, .func (PySem.W.fnOf "_law_spot_near" "_law_spot_near" (defArgs s__law_spot_near) (defBody s__law_spot_near) (defScope s__law_spot_near) .none kV__law_spot_near dc__law_spot_near pm__law_spot_near an__law_spot_near cd__law_spot_near ct__law_spot_near), sl__law_spot_near⟩)
    (c__law_spot_near : PySem.W.codeIn K cd__law_spot_near "_law_spot_near" = true)
    (k__law_spot_near : PySem.W.keepIn K (.ref f__law_spot_near) = true)
    (g__law_other_spot : PySem.W.nsIn K mainGlobals "_law_other_spot" = some (some (.ref f__law_other_spot)))
    (l__law_other_spot : K.lookup f__law_other_spot = some ⟨oc__law_other_spot, od__law_other_spot, .func (PySem.W.fnOf "_law_other_spot" "_law_other_spot" (defArgs s__law_other_spot) (defBody s__law_other_spot) (defScope s__law_other_spot) .none kV__law_other_spot dc__law_other_spot pm__law_other_spot an__law_other_spot cd__law_other_spot ct__law_other_spot), sl__law_other_spot⟩)
    (c__law_other_spot : PySem.W.codeIn K cd__law_other_spot "_law_other_spot" = true)
    (k__law_other_spot : PySem.W.keepIn K (.ref f__law_other_spot) = true)
    (g__law_difference : PySem.W.nsIn K mainGlobals "_law_difference" = some (some (.ref f__law_difference)))
    (l__law_difference : K.lookup f__law_difference = some ⟨oc__law_difference, od__law_difference, .func (PySem.W.fnOf "_law_difference" "_law_difference" (defArgs s__law_difference) (defBody s__law_difference) (defScope s__law_difference) .none kV__law_difference dc__law_difference pm__law_difference an__law_difference cd__law_difference ct__law_difference), sl__law_difference⟩)
    (c__law_difference : PySem.W.codeIn K cd__law_difference "_law_difference" = true)
    (k__law_difference : PySem.W.keepIn K (.ref f__law_difference) = true)
    (g__law_cross_of : PySem.W.nsIn K mainGlobals "_law_cross_of" = some (some (.ref f__law_cross_of)))
    (l__law_cross_of : K.lookup f__law_cross_of = some ⟨oc__law_cross_of, od__law_cross_of, .func (PySem.W.fnOf "_law_cross_of" "_law_cross_of" (defArgs s__law_cross_of) (defBody s__law_cross_of) (defScope s__law_cross_of) .none kV__law_cross_of dc__law_cross_of pm__law_cross_of an__law_cross_of cd__law_cross_of ct__law_cross_of), sl__law_cross_of⟩)
    (c__law_cross_of : PySem.W.codeIn K cd__law_cross_of "_law_cross_of" = true)
    (k__law_cross_of : PySem.W.keepIn K (.ref f__law_cross_of) = true)
    (g__law_along : PySem.W.nsIn K mainGlobals "_law_along" = some (some (.ref f__law_along)))
    (l__law_along : K.lookup f__law_along = some ⟨oc__law_along, od__law_along, .func (PySem.W.fnOf "_law_along" "_law_along" (defArgs s__law_along) (defBody s__law_along) (defScope s__law_along) .none kV__law_along dc__law_along pm__law_along an__law_along cd__law_along ct__law_along), sl__law_along⟩)
    (c__law_along : PySem.W.codeIn K cd__law_along "_law_along" = true)
    (k__law_along : PySem.W.keepIn K (.ref f__law_along) = true)
    (g__law_meets : PySem.W.nsIn K mainGlobals "_law_meets" = some (some (.ref f__law_meets)))
    (l__law_meets : K.lookup f__law_meets = some ⟨oc__law_meets, od__law_meets, .func (PySem.W.fnOf "_law_meets" "_law_meets" (defArgs s__law_meets) (defBody s__law_meets) (defScope s__law_meets) .none kV__law_meets dc__law_meets pm__law_meets an__law_meets cd__law_meets ct__law_meets), sl__law_meets⟩)
    (c__law_meets : PySem.W.codeIn K cd__law_meets "_law_meets" = true)
    (k__law_meets : PySem.W.keepIn K (.ref f__law_meets) = true)
    (g__law_beside : PySem.W.nsIn K mainGlobals "_law_beside" = some (some (.ref f__law_beside)))
    (l__law_beside : K.lookup f__law_beside = some ⟨oc__law_beside, od__law_beside, .func (PySem.W.fnOf "_law_beside" "_law_beside" (defArgs s__law_beside) (defBody s__law_beside) (defScope s__law_beside) .none kV__law_beside dc__law_beside pm__law_beside an__law_beside cd__law_beside ct__law_beside), sl__law_beside⟩)
    (c__law_beside : PySem.W.codeIn K cd__law_beside "_law_beside" = true)
    (k__law_beside : PySem.W.keepIn K (.ref f__law_beside) = true)
    (g__law_is_height : PySem.W.nsIn K mainGlobals "_law_is_height" = some (some (.ref f__law_is_height)))
    (l__law_is_height : K.lookup f__law_is_height = some ⟨oc__law_is_height, od__law_is_height, .func (PySem.W.fnOf "_law_is_height" "_law_is_height" (defArgs s__law_is_height) (defBody s__law_is_height) (defScope s__law_is_height) .none kV__law_is_height dc__law_is_height pm__law_is_height an__law_is_height (.ref cA__law_is_height) ct__law_is_height), sl__law_is_height⟩)
    (c__law_is_height : PySem.W.codeIn K (.ref cA__law_is_height) "_law_is_height" = true)
    (k__law_is_height : PySem.W.keepIn K (.ref f__law_is_height) = true)
    (o__law_is_height : K.lookup cA__law_is_height = some ⟨eC__law_is_height, dC__law_is_height, .fields vC__law_is_height, sC__law_is_height⟩)
    (v__law_is_height : vC__law_is_height[11]? = some (.ref Pt__law_is_height))
    (t__law_is_height : K.lookup Pt__law_is_height = none)
    (g__law_right : PySem.W.nsIn K mainGlobals "_law_right" = some (some (.ref f__law_right)))
    (l__law_right : K.lookup f__law_right = some ⟨oc__law_right, od__law_right, .func (PySem.W.fnOf "_law_right" "_law_right" (defArgs s__law_right) (defBody s__law_right) (defScope s__law_right) .none kV__law_right dc__law_right pm__law_right an__law_right cd__law_right ct__law_right), sl__law_right⟩)
    (c__law_right : PySem.W.codeIn K cd__law_right "_law_right" = true)
    (k__law_right : PySem.W.keepIn K (.ref f__law_right) = true)
    (g__law_odd_right : PySem.W.nsIn K mainGlobals "_law_odd_right" = some (some (.ref f__law_odd_right)))
    (l__law_odd_right : K.lookup f__law_odd_right = some ⟨oc__law_odd_right, od__law_odd_right, .func (PySem.W.fnOf "_law_odd_right" "_law_odd_right" (defArgs s__law_odd_right) (defBody s__law_odd_right) (defScope s__law_odd_right) .none kV__law_odd_right dc__law_odd_right pm__law_odd_right an__law_odd_right (.ref cA__law_odd_right) ct__law_odd_right), sl__law_odd_right⟩)
    (c__law_odd_right : PySem.W.codeIn K (.ref cA__law_odd_right) "_law_odd_right" = true)
    (k__law_odd_right : PySem.W.keepIn K (.ref f__law_odd_right) = true)
    (o__law_odd_right : K.lookup cA__law_odd_right = some ⟨eC__law_odd_right, dC__law_odd_right, .fields vC__law_odd_right, sC__law_odd_right⟩)
    (v__law_odd_right : vC__law_odd_right[11]? = some (.ref Pt__law_odd_right))
    (t__law_odd_right : K.lookup Pt__law_odd_right = none)
    (g_law : PySem.W.nsIn K mainGlobals "law" = some (some (.ref f_law)))
    (l_law : K.lookup f_law = some ⟨oc_law, od_law, .func (PySem.W.fnOf "law" "law" (defArgs s_law) (defBody s_law) (defScope s_law) .none kV_law dc_law pm_law an_law cd_law ct_law), sl_law⟩)
    (c_law : PySem.W.codeIn K cd_law "law" = true)
    (k_law : PySem.W.keepIn K (.ref f_law) = true)
    (ri1 : PySem.W.findIn K (.ref C_Ratio) "__class__" = some (some (.builtin "object.__class__")))
    (ri4 : PySem.W.mroIn K C_Ratio (.type "object") = some true)
    (ri5 : PySem.W.kitOne K (.ref C_Ratio) (.type "int") = some false)
    (ri6 : PySem.W.kitOne K (.ref C_Ratio) (.type "bool") = some false)
    (ri7 : PySem.W.kitOne K (.ref C_Ratio) (.ref C_Ratio) = some true)
    (ri8 : (["int", "bool", "NoneType", "str", "tuple", "list", "dict"] : List String).all (fun t => decide (PySem.W.kitOne K (.type t) (.ref C_Ratio) = some false)) = true)
    (cl1 : PySem.W.plainGet K C_Ratio Str.empty = true)
    (cl2 : PySem.W.hasDictIn K C_Ratio = true)
    (cl3 : PySem.W.plainOver K C_Ratio = true)
    (cl4 : PySem.W.findIn K (.ref C_Ratio) "__setattr__" = some (some (.builtin "object.__setattr__")))
    (mk1 : PySem.W.makesIn K C_Ratio = true)
    (mk2 : PySem.W.keepIn K (.ref C_Ratio) = true)
    (mk3 : PySem.W.isFn K (.ref f_Ratio___init__) = true)
    (eq1 : PySem.W.isFn K (.ref f_Ratio___eq__) = true)
    (eq2 : PySem.W.findIn K (.ref C_Ratio) "__ne__" = some (some (.builtin "object.__ne__")))
    (eq3 : (["int", "str", "tuple"] : List String).all (fun t => PySem.W.notFirst K C_Ratio (.type t)) = true)
    (ri1P : PySem.W.findIn K (.ref C_Point) "__class__" = some (some (.builtin "object.__class__")))
    (ri4P : PySem.W.mroIn K C_Point (.type "object") = some true)
    (ri5P : PySem.W.kitOne K (.ref C_Point) (.type "int") = some false)
    (ri6P : PySem.W.kitOne K (.ref C_Point) (.type "bool") = some false)
    (ri7P : PySem.W.kitOne K (.ref C_Point) (.ref C_Point) = some true)
    (ri8P : (["int", "bool", "NoneType", "str", "tuple", "list", "dict"] : List String).all (fun t => decide (PySem.W.kitOne K (.type t) (.ref C_Point) = some false)) = true)
    (cl1P : PySem.W.plainGet K C_Point Str.empty = true)
    (cl2P : PySem.W.hasDictIn K C_Point = true)
    (cl3P : PySem.W.plainOver K C_Point = true)
    (cl4P : PySem.W.findIn K (.ref C_Point) "__setattr__" = some (some (.builtin "object.__setattr__")))
    (mk1P : PySem.W.makesIn K C_Point = true)
    (mk2P : PySem.W.keepIn K (.ref C_Point) = true)
    (mk3P : PySem.W.isFn K (.ref f_Point___init__) = true)
    (eq1P : PySem.W.isFn K (.ref f_Point___eq__) = true)
    (eq2P : PySem.W.findIn K (.ref C_Point) "__ne__" = some (some (.builtin "object.__ne__")))
    (eq3P : (["int", "str", "tuple"] : List String).all (fun t => PySem.W.notFirst K C_Point (.type t)) = true)
    (ri1L : PySem.W.findIn K (.ref C_Line) "__class__" = some (some (.builtin "object.__class__")))
    (ri4L : PySem.W.mroIn K C_Line (.type "object") = some true)
    (ri5L : PySem.W.kitOne K (.ref C_Line) (.type "int") = some false)
    (ri6L : PySem.W.kitOne K (.ref C_Line) (.type "bool") = some false)
    (ri7L : PySem.W.kitOne K (.ref C_Line) (.ref C_Line) = some true)
    (ri8L : (["int", "bool", "NoneType", "str", "tuple", "list", "dict"] : List String).all (fun t => decide (PySem.W.kitOne K (.type t) (.ref C_Line) = some false)) = true)
    (cl1L : PySem.W.plainGet K C_Line Str.empty = true)
    (cl2L : PySem.W.hasDictIn K C_Line = true)
    (cl3L : PySem.W.plainOver K C_Line = true)
    (cl4L : PySem.W.findIn K (.ref C_Line) "__setattr__" = some (some (.builtin "object.__setattr__")))
    (mk1L : PySem.W.makesIn K C_Line = true)
    (mk2L : PySem.W.keepIn K (.ref C_Line) = true)
    (mk3L : PySem.W.isFn K (.ref f_Line___init__) = true)
    (eq1L : PySem.W.isFn K (.ref f_Line___eq__) = true)
    (eq2L : PySem.W.findIn K (.ref C_Line) "__ne__" = some (some (.builtin "object.__ne__")))
    (eq3L : (["int", "str", "tuple"] : List String).all (fun t => PySem.W.notFirst K C_Line (.type t)) = true)
    (nN : PySem.W.findIn K (.ref C_Ratio) "number" = some none)
    (nU : PySem.W.findIn K (.ref C_Ratio) "under" = some none)
    (nX : PySem.W.findIn K (.ref C_Point) "x" = some none)
    (nY : PySem.W.findIn K (.ref C_Point) "y" = some none)
    (nA : PySem.W.findIn K (.ref C_Line) "one" = some none)
    (nB : PySem.W.findIn K (.ref C_Line) "other" = some none)
    (rPL : PySem.W.kitOne K (.ref C_Point) (.ref C_Line) = some false)
    (nLP : PySem.W.notFirst K C_Line (.ref C_Point) = true)
    (r_add : PySem.W.findIn K (.ref C_Ratio) "__radd__" = some (some (.ref f_Ratio___radd__)))
    (o_add : opcB K C_Ratio f_Ratio___add__ f_Ratio___radd__ "add" = true)
    (r_sub : PySem.W.findIn K (.ref C_Ratio) "__rsub__" = some (some (.ref f_Ratio___rsub__)))
    (o_sub : opcB K C_Ratio f_Ratio___sub__ f_Ratio___rsub__ "sub" = true)
    (r_mul : PySem.W.findIn K (.ref C_Ratio) "__rmul__" = some (some (.ref f_Ratio___rmul__)))
    (o_mul : opcB K C_Ratio f_Ratio___mul__ f_Ratio___rmul__ "mul" = true)
    (sfP : PySem.W.selfFirst K C_Point = true)
    (sfL : PySem.W.selfFirst K C_Line = true)
    (fs_P : PySem.W.isFn K (.ref f_Point___sub__) = true)
    (ft_P : PySem.W.isFn K (.ref f_Point_towards) = true)
    (fd_R : PySem.W.isFn K (.ref f_Ratio_divided) = true)
    (fh_L : PySem.W.isFn K (.ref f_Line_height) = true)
    (fi_L : PySem.W.isFn K (.ref f_Line_share) = true)
    (fa_L : PySem.W.isFn K (.ref f_Line___and__) = true)
    (xBBadPoint : PySem.W.exmOne K (.ref C_BadPoint) (.ref C_AboutError) = some true)
    (tBBadPoint : PySem.W.kitOne K (.ref C_BadPoint) (.ref C_BadPoint) = some true)
    (xBOff : PySem.W.exmOne K (.ref C_Off) (.ref C_AboutError) = some true)
    (tBOff : PySem.W.kitOne K (.ref C_Off) (.ref C_Off) = some true)
    (nP : Pt__law_is_height ≠ Pt__law_odd_right) :
    LawT P w K 18 63 "_law_script" mg fa h := by
  have e := hfa.symm.trans (PySem.W.mg_of X G g_law)
  cases e
  let a : Ad := ⟨f_init, C_AboutError, C_BadPoint, C_Off, C_Ratio, C_Point, C_Line, f__law_pot, f__law_take, f__law_of, f__law_places, f__law_told, f__law_odd, f__law_common, f__law_pair, f__law_spot, f__law_made_point, f__law_spot_of, f__law_pair_of, f__law_spot_near, f__law_other_spot, f__law_difference, f__law_cross_of, f__law_along, f__law_is_height, f__law_meets, f__law_beside, f__law_right, f__law_odd_right, fa, f_is_integer, f_is_number, f_as_ratio, f_difference, f_check_point, f_Ratio___init__, f_Ratio_divided, f_Ratio___add__, f_Ratio___radd__, f_Ratio___sub__, f_Ratio___rsub__, f_Ratio___mul__, f_Ratio___rmul__, f_Ratio___eq__, f_Point___init__, f_Point_towards, f_Point___sub__, f_Point___eq__, f_Line___init__, f_Line_height, f_Line_share, f_Line___and__, f_Line___eq__⟩
  have eb1 : ∀ C ∈ [C_AboutError, C_BadPoint, C_Off], ecB K f_init C = true := List.all_eq_true.mp eb
  have e_AboutError := ecB_ok (eb1 C_AboutError (by simp)) ⟨_, _, _, _, _, _, _, _, _, _, _, _, _, _, _, x_AboutError, by rfl⟩
  have e_BadPoint := ecB_ok (eb1 C_BadPoint (by simp)) ⟨_, _, _, _, _, _, _, _, _, _, _, _, _, _, _, x_BadPoint, by rfl⟩
  have e_Off := ecB_ok (eb1 C_Off (by simp)) ⟨_, _, _, _, _, _, _, _, _, _, _, _, _, _, _, x_Off, by rfl⟩
  have T : Txt K mg a := {
    n_abs := PySem.W.mg_none_of X G n_abs
    n_all := PySem.W.mg_none_of X G n_all
    n_bool := PySem.W.mg_none_of X G n_bool
    n_int := PySem.W.mg_none_of X G n_int
    n_isinstance := PySem.W.mg_none_of X G n_isinstance
    n_len := PySem.W.mg_none_of X G n_len
    n_list := PySem.W.mg_none_of X G n_list
    n_max := PySem.W.mg_none_of X G n_max
    n_min := PySem.W.mg_none_of X G n_min
    n_range := PySem.W.mg_none_of X G n_range
    n_repr := PySem.W.mg_none_of X G n_repr
    g__law_pot := PySem.W.mg_of X G g__law_pot
    k__law_pot := k__law_pot
    g__law_take := PySem.W.mg_of X G g__law_take
    k__law_take := k__law_take
    g__law_of := PySem.W.mg_of X G g__law_of
    k__law_of := k__law_of
    g__law_places := PySem.W.mg_of X G g__law_places
    k__law_places := k__law_places
    g_is_integer := PySem.W.mg_of X G g_is_integer
    k_is_integer := k_is_integer
    g_is_number := PySem.W.mg_of X G g_is_number
    k_is_number := k_is_number
    g_as_ratio := PySem.W.mg_of X G g_as_ratio
    k_as_ratio := k_as_ratio
    g_difference := PySem.W.mg_of X G g_difference
    k_difference := k_difference
    g__law_common := PySem.W.mg_of X G g__law_common
    k__law_common := k__law_common
    g__law_pair := PySem.W.mg_of X G g__law_pair
    k__law_pair := k__law_pair
    g__law_spot := PySem.W.mg_of X G g__law_spot
    k__law_spot := k__law_spot
    g__law_pair_of := PySem.W.mg_of X G g__law_pair_of
    k__law_pair_of := k__law_pair_of
    g__law_odd := PySem.W.mg_of X G g__law_odd
    k__law_odd := k__law_odd
    g_check_point := PySem.W.mg_of X G g_check_point
    k_check_point := k_check_point
    g__law_made_point := PySem.W.mg_of X G g__law_made_point
    k__law_made_point := k__law_made_point
    g__law_spot_of := PySem.W.mg_of X G g__law_spot_of
    k__law_spot_of := k__law_spot_of
    g__law_spot_near := PySem.W.mg_of X G g__law_spot_near
    k__law_spot_near := k__law_spot_near
    g__law_other_spot := PySem.W.mg_of X G g__law_other_spot
    k__law_other_spot := k__law_other_spot
    g__law_difference := PySem.W.mg_of X G g__law_difference
    k__law_difference := k__law_difference
    g__law_cross_of := PySem.W.mg_of X G g__law_cross_of
    k__law_cross_of := k__law_cross_of
    g__law_along := PySem.W.mg_of X G g__law_along
    k__law_along := k__law_along
    g__law_meets := PySem.W.mg_of X G g__law_meets
    k__law_meets := k__law_meets
    g__law_beside := PySem.W.mg_of X G g__law_beside
    k__law_beside := k__law_beside
    g__law_is_height := PySem.W.mg_of X G g__law_is_height
    k__law_is_height := k__law_is_height
    g__law_right := PySem.W.mg_of X G g__law_right
    k__law_right := k__law_right
    g__law_odd_right := PySem.W.mg_of X G g__law_odd_right
    k__law_odd_right := k__law_odd_right
    g_law := PySem.W.mg_of X G g_law
    k_law := k_law
    g_AboutError := PySem.W.mg_of X G g_AboutError
    tI := tI
    ek := ⟨sp, tk⟩
    g_BadPoint := PySem.W.mg_of X G g_BadPoint
    c_BadPoint := e_BadPoint.1
    i_BadPoint := e_BadPoint.2
    x_BadPoint := xBBadPoint
    t_BadPoint := tBBadPoint
    g_Off := PySem.W.mg_of X G g_Off
    c_Off := e_Off.1
    i_Off := e_Off.2
    x_Off := xBOff
    t_Off := tBOff
    eqc := ⟨g_Ratio___eq__, eq1, eq2, ri4, fun t ht => List.all_eq_true.mp eq3 t (by simpa [or_assoc] using ht)⟩
    eqp := ⟨g_Point___eq__, eq1P, eq2P, ri4P, fun t ht => List.all_eq_true.mp eq3P t (by simpa [or_assoc] using ht)⟩
    eql := ⟨g_Line___eq__, eq1L, eq2L, ri4L, fun t ht => List.all_eq_true.mp eq3L t (by simpa [or_assoc] using ht)⟩
    g_gcd := PySem.W.mg_of X G gG
    g_Ratio := PySem.W.mg_of X G g_Ratio
    m_Ratio := ⟨mk1, g_Ratio___init__, mk3, mk2⟩
    cl := ⟨cl1, cl2, cl3, cl4⟩
    g_Point := PySem.W.mg_of X G g_Point
    m_Point := ⟨mk1P, g_Point___init__, mk3P, mk2P⟩
    clP := ⟨cl1P, cl2P, cl3P, cl4P⟩
    g_Line := PySem.W.mg_of X G g_Line
    m_Line := ⟨mk1L, g_Line___init__, mk3L, mk2L⟩
    clL := ⟨cl1L, cl2L, cl3L, cl4L⟩
    nN := nN
    nU := nU
    nX := nX
    nY := nY
    nA := nA
    nB := nB
    rPL := rPL
    nLP := nLP
    ri := ⟨ri1, sp, tk, ri4, ri5, ri6, ri7, fun t ht => of_decide_eq_true (List.all_eq_true.mp ri8 t ht)⟩
    riP := ⟨ri1P, sp, tk, ri4P, ri5P, ri6P, ri7P, fun t ht => of_decide_eq_true (List.all_eq_true.mp ri8P t ht)⟩
    riL := ⟨ri1L, sp, tk, ri4L, ri5L, ri6L, ri7L, fun t ht => of_decide_eq_true (List.all_eq_true.mp ri8L t ht)⟩
    o_add := opcB_ok o_add
    o_sub := opcB_ok o_sub
    o_mul := opcB_ok o_mul
    dv := ⟨g_Ratio_divided, fd_R, k_Ratio_divided⟩
    tw := ⟨g_Point_towards, ft_P, k_Point_towards⟩
    oS := ⟨sfP, g_Point___sub__, fs_P⟩
    hg := ⟨g_Line_height, fh_L, k_Line_height⟩
    sh := ⟨g_Line_share, fi_L, k_Line_share⟩
    oA := ⟨sfL, g_Line___and__, fa_L⟩
    g__law_told := PySem.W.mg_of X G g__law_told
    k__law_told := k__law_told
  }
  have F_init := fun_mk (st := s_init) l_init c_init k_init
  have b_init := F_init.binds (ps := ["self", "value"]) fun _ _ _ _ _ _ us hl => match us, hl with | [_, _], _ => rfl
  have F__law_told := fun_mk (st := s__law_told) l__law_told c__law_told k__law_told
  have b__law_told := F__law_told.binds (ps := ["_law_ask"]) fun _ _ _ _ _ _ us hl => match us, hl with | [_], _ => rfl
  have F__law_pot := fun_mk (st := s__law_pot) l__law_pot c__law_pot k__law_pot
  have b__law_pot := F__law_pot.binds (ps := ["_law_script", "_law_k"]) fun _ _ _ _ _ _ us hl => match us, hl with | [_, _], _ => rfl
  have F__law_take := fun_mk (st := s__law_take) l__law_take c__law_take k__law_take
  have b__law_take := F__law_take.binds (ps := ["_law_pot_here", "_law_upto"]) fun _ _ _ _ _ _ us hl => match us, hl with | [_, _], _ => rfl
  have F__law_of := fun_mk (st := s__law_of) l__law_of c__law_of k__law_of
  have b__law_of := F__law_of.binds (ps := ["_law_pot_here", "_law_some"]) fun _ _ _ _ _ _ us hl => match us, hl with | [_, _], _ => rfl
  have F__law_places := fun_mk (st := s__law_places) l__law_places c__law_places k__law_places
  have b__law_places := F__law_places.binds (ps := ["_law_script", "_law_most"]) fun _ _ _ _ _ _ us hl => match us, hl with | [_, _], _ => rfl
  have F_is_integer := fun_mk (st := s_is_integer) l_is_integer c_is_integer k_is_integer
  have b_is_integer := F_is_integer.binds (ps := ["value"]) fun _ _ _ _ _ _ us hl => match us, hl with | [_], _ => rfl
  have F_is_number := fun_mk (st := s_is_number) l_is_number c_is_number k_is_number
  have b_is_number := F_is_number.binds (ps := ["value"]) fun _ _ _ _ _ _ us hl => match us, hl with | [_], _ => rfl
  have F_Ratio___init__ : FunD K "__init__" "Ratio.__init__" (defArgs s_Ratio___init__) (defBody s_Ratio___init__) (defScope s_Ratio___init__) [.int 1] [] f_Ratio___init__ _ := ⟨⟨_, _, _, _, _, _, _, _, _, _, rfl, l_Ratio___init__, c_Ratio___init__, .inr ⟨by simp, _, _, _, _, rfl, d_Ratio___init__, rfl, r_Ratio___init__⟩, .inl rfl⟩, k_Ratio___init__⟩
  have d_Ratio___init__ := F_Ratio___init__.binds1 (ps := ["self", "number", "under"]) 2 0 (by simp) (by rfl) fun T kV doc pm an cdv ct us its hu hi => match us, its, hu, hi with | [_, _], [_], _, _ => ⟨_, rfl, rfl⟩
  obtain ⟨ds_Ratio___init__, d_Ratio___init__⟩ := d_Ratio___init__
  have b_Ratio___init__ := F_Ratio___init__.binds1 (ps := ["self", "number", "under"]) 3 1 (by simp) (by rfl) fun T kV doc pm an cdv ct us its hu hi => match us, its, hu, hi with | [_, _, _], [_], _, _ => ⟨_, rfl, rfl⟩
  obtain ⟨es_Ratio___init__, v_Ratio___init__, b_Ratio___init__⟩ := b_Ratio___init__
  cases v_Ratio___init__
  have F_as_ratio := fun_mk (st := s_as_ratio) l_as_ratio c_as_ratio k_as_ratio
  have b_as_ratio := F_as_ratio.binds (ps := ["number"]) fun _ _ _ _ _ _ us hl => match us, hl with | [_], _ => rfl
  have F_difference := fun_mk (st := s_difference) l_difference c_difference k_difference
  have b_difference := F_difference.binds (ps := ["one", "other"]) fun _ _ _ _ _ _ us hl => match us, hl with | [_, _], _ => rfl
  have F_Ratio_divided := fun_mk (st := s_Ratio_divided) l_Ratio_divided c_Ratio_divided k_Ratio_divided
  have b_Ratio_divided := F_Ratio_divided.binds (ps := ["self", "other"]) fun _ _ _ _ _ _ us hl => match us, hl with | [_, _], _ => rfl
  have F_Ratio___add__ := fun_mk (st := s_Ratio___add__) l_Ratio___add__ c_Ratio___add__ k_Ratio___add__
  have b_Ratio___add__ := F_Ratio___add__.binds (ps := ["self", "other"]) fun _ _ _ _ _ _ us hl => match us, hl with | [_, _], _ => rfl
  have F_Ratio___sub__ := fun_mk (st := s_Ratio___sub__) l_Ratio___sub__ c_Ratio___sub__ k_Ratio___sub__
  have b_Ratio___sub__ := F_Ratio___sub__.binds (ps := ["self", "other"]) fun _ _ _ _ _ _ us hl => match us, hl with | [_, _], _ => rfl
  have F_Ratio___mul__ := fun_mk (st := s_Ratio___mul__) l_Ratio___mul__ c_Ratio___mul__ k_Ratio___mul__
  have b_Ratio___mul__ := F_Ratio___mul__.binds (ps := ["self", "other"]) fun _ _ _ _ _ _ us hl => match us, hl with | [_, _], _ => rfl
  have F_Ratio___eq__ := fun_mk (st := s_Ratio___eq__) l_Ratio___eq__ c_Ratio___eq__ k_Ratio___eq__
  have b_Ratio___eq__ := F_Ratio___eq__.binds (ps := ["self", "other"]) fun _ _ _ _ _ _ us hl => match us, hl with | [_, _], _ => rfl
  have F__law_common := fun_mk (st := s__law_common) l__law_common c__law_common k__law_common
  have b__law_common := F__law_common.binds (ps := ["_law_one", "_law_other"]) fun _ _ _ _ _ _ us hl => match us, hl with | [_, _], _ => rfl
  have F__law_pair := fun_mk (st := s__law_pair) l__law_pair c__law_pair k__law_pair
  have b__law_pair := F__law_pair.binds (ps := ["_law_above", "_law_under"]) fun _ _ _ _ _ _ us hl => match us, hl with | [_, _], _ => rfl
  have F__law_spot := fun_mk (st := s__law_spot) l__law_spot c__law_spot k__law_spot
  have b__law_spot := F__law_spot.binds (ps := ["_law_x", "_law_y", "_law_d"]) fun _ _ _ _ _ _ us hl => match us, hl with | [_, _, _], _ => rfl
  have F__law_pair_of := fun_mk (st := s__law_pair_of) l__law_pair_of c__law_pair_of k__law_pair_of
  have b__law_pair_of := F__law_pair_of.binds (ps := ["_law_made"]) fun _ _ _ _ _ _ us hl => match us, hl with | [_], _ => rfl
  have F__law_odd := fun_mk (st := s__law_odd) l__law_odd c__law_odd k__law_odd
  have b__law_odd := F__law_odd.binds (ps := ["_law_pot_here"]) fun _ _ _ _ _ _ us hl => match us, hl with | [_], _ => rfl
  have F_check_point := fun_mk (st := s_check_point) l_check_point c_check_point k_check_point
  have b_check_point := F_check_point.binds (ps := ["value"]) fun _ _ _ _ _ _ us hl => match us, hl with | [_], _ => rfl
  have F_Point___init__ := fun_mk (st := s_Point___init__) l_Point___init__ c_Point___init__ k_Point___init__
  have b_Point___init__ := F_Point___init__.binds (ps := ["self", "x", "y"]) fun _ _ _ _ _ _ us hl => match us, hl with | [_, _, _], _ => rfl
  have F_Point___eq__ := fun_mk (st := s_Point___eq__) l_Point___eq__ c_Point___eq__ k_Point___eq__
  have b_Point___eq__ := F_Point___eq__.binds (ps := ["self", "other"]) fun _ _ _ _ _ _ us hl => match us, hl with | [_, _], _ => rfl
  have F_Point___sub__ := fun_mk (st := s_Point___sub__) l_Point___sub__ c_Point___sub__ k_Point___sub__
  have b_Point___sub__ := F_Point___sub__.binds (ps := ["self", "other"]) fun _ _ _ _ _ _ us hl => match us, hl with | [_, _], _ => rfl
  have F_Point_towards := fun_mk (st := s_Point_towards) l_Point_towards c_Point_towards k_Point_towards
  have b_Point_towards := F_Point_towards.binds (ps := ["self", "other", "share"]) fun _ _ _ _ _ _ us hl => match us, hl with | [_, _, _], _ => rfl
  have F_Line___init__ := fun_mk (st := s_Line___init__) l_Line___init__ c_Line___init__ k_Line___init__
  have b_Line___init__ := F_Line___init__.binds (ps := ["self", "one", "other"]) fun _ _ _ _ _ _ us hl => match us, hl with | [_, _, _], _ => rfl
  have F_Line_height := fun_mk (st := s_Line_height) l_Line_height c_Line_height k_Line_height
  have b_Line_height := F_Line_height.binds (ps := ["self", "point"]) fun _ _ _ _ _ _ us hl => match us, hl with | [_, _], _ => rfl
  have F_Line_share := fun_mk (st := s_Line_share) l_Line_share c_Line_share k_Line_share
  have b_Line_share := F_Line_share.binds (ps := ["self", "point"]) fun _ _ _ _ _ _ us hl => match us, hl with | [_, _], _ => rfl
  have F_Line___and__ := fun_mk (st := s_Line___and__) l_Line___and__ c_Line___and__ k_Line___and__
  have b_Line___and__ := F_Line___and__.binds (ps := ["self", "other"]) fun _ _ _ _ _ _ us hl => match us, hl with | [_, _], _ => rfl
  have F_Line___eq__ := fun_mk (st := s_Line___eq__) l_Line___eq__ c_Line___eq__ k_Line___eq__
  have b_Line___eq__ := F_Line___eq__.binds (ps := ["self", "other"]) fun _ _ _ _ _ _ us hl => match us, hl with | [_, _], _ => rfl
  have F__law_made_point := fun_mk (st := s__law_made_point) l__law_made_point c__law_made_point k__law_made_point
  have b__law_made_point := F__law_made_point.binds (ps := ["_law_dot"]) fun _ _ _ _ _ _ us hl => match us, hl with | [_], _ => rfl
  have F__law_spot_of := fun_mk (st := s__law_spot_of) l__law_spot_of c__law_spot_of k__law_spot_of
  have b__law_spot_of := F__law_spot_of.binds (ps := ["_law_point"]) fun _ _ _ _ _ _ us hl => match us, hl with | [_], _ => rfl
  have F__law_spot_near := fun_mk (st := s__law_spot_near) l__law_spot_near c__law_spot_near k__law_spot_near
  have b__law_spot_near := F__law_spot_near.binds (ps := ["_law_pot_here"]) fun _ _ _ _ _ _ us hl => match us, hl with | [_], _ => rfl
  have F__law_other_spot := fun_mk (st := s__law_other_spot) l__law_other_spot c__law_other_spot k__law_other_spot
  have b__law_other_spot := F__law_other_spot.binds (ps := ["_law_pot_here", "_law_dot"]) fun _ _ _ _ _ _ us hl => match us, hl with | [_, _], _ => rfl
  have F__law_difference := fun_mk (st := s__law_difference) l__law_difference c__law_difference k__law_difference
  have b__law_difference := F__law_difference.binds (ps := ["_law_one", "_law_other"]) fun _ _ _ _ _ _ us hl => match us, hl with | [_, _], _ => rfl
  have F__law_cross_of := fun_mk (st := s__law_cross_of) l__law_cross_of c__law_cross_of k__law_cross_of
  have b__law_cross_of := F__law_cross_of.binds (ps := ["_law_one", "_law_other"]) fun _ _ _ _ _ _ us hl => match us, hl with | [_, _], _ => rfl
  have F__law_along := fun_mk (st := s__law_along) l__law_along c__law_along k__law_along
  have b__law_along := F__law_along.binds (ps := ["_law_one", "_law_other", "_law_share"]) fun _ _ _ _ _ _ us hl => match us, hl with | [_, _, _], _ => rfl
  have F__law_meets := fun_mk (st := s__law_meets) l__law_meets c__law_meets k__law_meets
  have b__law_meets := F__law_meets.binds (ps := ["_law_one", "_law_other", "_law_third", "_law_fourth"]) fun _ _ _ _ _ _ us hl => match us, hl with | [_, _, _, _], _ => rfl
  have F__law_beside := fun_mk (st := s__law_beside) l__law_beside c__law_beside k__law_beside
  have b__law_beside := F__law_beside.binds (ps := ["_law_one", "_law_other", "_law_third"]) fun _ _ _ _ _ _ us hl => match us, hl with | [_, _, _], _ => rfl
  have F__law_is_height := fun_mk (st := s__law_is_height) l__law_is_height c__law_is_height k__law_is_height
  have b__law_is_height := F__law_is_height.binds (ps := ["_law_made", "_law_one", "_law_other", "_law_dot"]) fun _ _ _ _ _ _ us hl => match us, hl with | [_, _, _, _], _ => rfl
  have F__law_right := fun_mk (st := s__law_right) l__law_right c__law_right k__law_right
  have b__law_right := F__law_right.binds (ps := ["_law_pot_here"]) fun _ _ _ _ _ _ us hl => match us, hl with | [_], _ => rfl
  have F__law_odd_right := fun_mk (st := s__law_odd_right) l__law_odd_right c__law_odd_right k__law_odd_right
  have b__law_odd_right := F__law_odd_right.binds (ps := ["_law_pot_here"]) fun _ _ _ _ _ _ us hl => match us, hl with | [_], _ => rfl
  have F_law := fun_mk (st := s_law) l_law c_law k_law
  have b_law := F_law.binds (ps := ["_law_script"]) fun _ _ _ _ _ _ us hl => match us, hl with | [_], _ => rfl
  obtain ⟨xf__law_is_height, xo, xd, c_cd__law_is_height, xt__law_is_height, y1, y2, y3, y4, y5__law_is_height, y6__law_is_height⟩ := bare__law_is_height
  rw [PySem.W.mg_of X G g__law_is_height] at y1
  cases y1
  rw [X _ _ l__law_is_height] at y2
  cases y2
  cases y3
  cases y4
  have same__law_is_height : Pt__law_is_height = xt__law_is_height := by
    obtain ⟨ob, us, _, _, _, _, _, _, _, z1, _, z3, z4, _⟩ := id y5__law_is_height
    rw [X _ _ o__law_is_height] at z1
    cases z1
    cases z3
    rw [v__law_is_height] at z4
    injection z4 with z5
    injection z5
  rw [← same__law_is_height] at y5__law_is_height y6__law_is_height
  obtain ⟨xf__law_odd_right, xo, xd, c_cd__law_odd_right, xt__law_odd_right, y1, y2, y3, y4, y5__law_odd_right, y6__law_odd_right⟩ := bare__law_odd_right
  rw [PySem.W.mg_of X G g__law_odd_right] at y1
  cases y1
  rw [X _ _ l__law_odd_right] at y2
  cases y2
  cases y3
  cases y4
  have same__law_odd_right : Pt__law_odd_right = xt__law_odd_right := by
    obtain ⟨ob, us, _, _, _, _, _, _, _, z1, _, z3, z4, _⟩ := id y5__law_odd_right
    rw [X _ _ o__law_odd_right] at z1
    cases z1
    cases z3
    rw [v__law_odd_right] at z4
    injection z4 with z5
    injection z5
  rw [← same__law_odd_right] at y5__law_odd_right y6__law_odd_right
  refine ⟨PySem.W.fnOf "law" "law" (defArgs s_law) (defBody s_law) (defScope s_law) .none kV_law dc_law pm_law an_law cd_law ct_law, [(cA__law_is_height, Pt__law_is_height), (cA__law_odd_right, Pt__law_odd_right)], spLaw K Pt__law_is_height Pt__law_odd_right, ?facts, fun s v => .of_eq rfl, ?told, fun base hK hG TB => ?fn⟩
  case facts =>
    intro p hp
    simp only [List.mem_cons, List.not_mem_nil, or_false] at hp
    rcases hp with rfl | rfl
    · exact ⟨y6__law_is_height, t__law_is_height, y5__law_is_height⟩
    · exact ⟨y6__law_odd_right, t__law_odd_right, y5__law_odd_right⟩
  case told =>
    intro H b ns hl hT hS
    refine ⟨b, ns, rfl, hS, hl, fun p hp => ?_, fun _ => rfl⟩
    simp only [TT, List.mem_cons, List.not_mem_nil, or_false] at hp
    rcases hp with rfl | rfl
    · exact TabS.nil (hT (cA__law_is_height, Pt__law_is_height) (by simp))
    · exact TabS.nil (hT (cA__law_odd_right, Pt__law_odd_right) (by simp))
  case fn =>
    have G_init : FnOk P w K mg base CX0 1 f_init _ ["self", "value"] (spErrInit K) := ok_init F_init
    have G__law_pot := ok__law_pot (P := P) (w := w) (base := base) (a := a) F__law_pot T
    have G__law_take := ok__law_take (P := P) (w := w) (base := base) (a := a) F__law_take T
    have G__law_of := ok__law_of (P := P) (w := w) (base := base) (a := a) F__law_of T G__law_take b__law_take
    have G__law_places := ok__law_places (P := P) (w := w) (base := base) (a := a) F__law_places T
    have G_is_integer := ok_is_integer (P := P) (w := w) (base := base) (a := a) F_is_integer T
    have G_is_number := ok_is_number (P := P) (w := w) (base := base) (a := a) F_is_number T G_is_integer b_is_integer
    have G_Ratio___init__ := ok_Ratio___init__ (P := P) (w := w) (base := base) (a := a) F_Ratio___init__ T G_is_integer b_is_integer
    have G_as_ratio := ok_as_ratio (P := P) (w := w) (base := base) (a := a) F_as_ratio T G_Ratio___init__ b_Ratio___init__ d_Ratio___init__
    have G_difference := ok_difference (P := P) (w := w) (base := base) (a := a) F_difference T
    have G_Ratio_divided := ok_Ratio_divided (P := P) (w := w) (base := base) (a := a) F_Ratio_divided T G_Ratio___init__ b_Ratio___init__ d_Ratio___init__ G_as_ratio b_as_ratio G_is_number b_is_number
    have G_Ratio___add__ := ok_Ratio___add__ (P := P) (w := w) (base := base) (a := a) F_Ratio___add__ T G_Ratio___init__ b_Ratio___init__ d_Ratio___init__ G_as_ratio b_as_ratio G_is_number b_is_number
    have G_Ratio___sub__ := ok_Ratio___sub__ (P := P) (w := w) (base := base) (a := a) F_Ratio___sub__ T G_Ratio___init__ b_Ratio___init__ d_Ratio___init__ G_difference b_difference G_as_ratio b_as_ratio G_is_number b_is_number
    have G_Ratio___mul__ := ok_Ratio___mul__ (P := P) (w := w) (base := base) (a := a) F_Ratio___mul__ T G_Ratio___init__ b_Ratio___init__ d_Ratio___init__ G_as_ratio b_as_ratio G_is_number b_is_number
    have G_Ratio___eq__ := ok_Ratio___eq__ (P := P) (w := w) (base := base) (a := a) F_Ratio___eq__ T
    have G__law_common := ok__law_common (P := P) (w := w) (base := base) (a := a) F__law_common T
    have G__law_pair := ok__law_pair (P := P) (w := w) (base := base) (a := a) F__law_pair T G__law_common b__law_common
    have G__law_spot := ok__law_spot (P := P) (w := w) (base := base) (a := a) F__law_spot T G__law_common b__law_common
    have G__law_pair_of := ok__law_pair_of (P := P) (w := w) (base := base) (a := a) F__law_pair_of T
    have G__law_odd := ok__law_odd (P := P) (w := w) (base := base) (a := a) F__law_odd T G__law_of b__law_of
    have G_check_point := ok_check_point (P := P) (w := w) (base := base) (a := a) F_check_point T G_init b_init
    have G_Point___init__ := ok_Point___init__ (P := P) (w := w) (base := base) (a := a) F_Point___init__ T G_as_ratio b_as_ratio G_is_number b_is_number
    have G_Point___eq__ := ok_Point___eq__ (P := P) (w := w) (base := base) (a := a) F_Point___eq__ T G_Ratio___eq__ b_Ratio___eq__
    have G_Point___sub__ := ok_Point___sub__ (P := P) (w := w) (base := base) (a := a) F_Point___sub__ T G_Point___init__ b_Point___init__ G_Ratio___sub__ b_Ratio___sub__
    have G_Point_towards := ok_Point_towards (P := P) (w := w) (base := base) (a := a) F_Point_towards T G_Point___init__ b_Point___init__ G_Ratio___add__ b_Ratio___add__ G_Ratio___mul__ b_Ratio___mul__ G_Ratio___sub__ b_Ratio___sub__ G_is_number b_is_number G_check_point b_check_point
    have G_Line___init__ := ok_Line___init__ (P := P) (w := w) (base := base) (a := a) F_Line___init__ T G_Point___eq__ b_Point___eq__ G_init b_init G_check_point b_check_point
    have G_Line_height := ok_Line_height (P := P) (w := w) (base := base) (a := a) F_Line_height T G_Ratio___sub__ b_Ratio___sub__ G_Ratio___mul__ b_Ratio___mul__ G_Point___sub__ b_Point___sub__ G_check_point b_check_point
    have G_Line_share := ok_Line_share (P := P) (w := w) (base := base) (a := a) F_Line_share T G_Ratio_divided b_Ratio_divided G_Point___sub__ b_Point___sub__ G_Line_height b_Line_height G_init b_init
    have G_Line___and__ := ok_Line___and__ (P := P) (w := w) (base := base) (a := a) F_Line___and__ T G_Point_towards b_Point_towards G_Ratio_divided b_Ratio_divided G_Ratio___sub__ b_Ratio___sub__ G_Line_height b_Line_height
    have G_Line___eq__ := ok_Line___eq__ (P := P) (w := w) (base := base) (a := a) F_Line___eq__ T G_Point___eq__ b_Point___eq__
    have G__law_made_point := ok__law_made_point (P := P) (w := w) (base := base) (a := a) F__law_made_point T G_Point___init__ b_Point___init__ G_Ratio___init__ b_Ratio___init__ d_Ratio___init__
    have G__law_spot_of := ok__law_spot_of (P := P) (w := w) (base := base) (a := a) F__law_spot_of T G__law_spot b__law_spot
    have G__law_spot_near := ok__law_spot_near (P := P) (w := w) (base := base) (a := a) F__law_spot_near T G__law_spot b__law_spot G__law_of b__law_of G__law_take b__law_take
    have G__law_other_spot := ok__law_other_spot (P := P) (w := w) (base := base) (a := a) F__law_other_spot T G__law_spot b__law_spot G__law_spot_near b__law_spot_near
    have G__law_difference := ok__law_difference (P := P) (w := w) (base := base) (a := a) F__law_difference T G__law_pair b__law_pair
    have G__law_cross_of := ok__law_cross_of (P := P) (w := w) (base := base) (a := a) F__law_cross_of T G__law_pair b__law_pair
    have G__law_along := ok__law_along (P := P) (w := w) (base := base) (a := a) F__law_along T G__law_spot b__law_spot G__law_pair b__law_pair G__law_difference b__law_difference
    have G__law_meets := ok__law_meets (P := P) (w := w) (base := base) (a := a) F__law_meets T G__law_along b__law_along G__law_pair b__law_pair G__law_cross_of b__law_cross_of G__law_difference b__law_difference
    have G__law_beside := ok__law_beside (P := P) (w := w) (base := base) (a := a) F__law_beside T G__law_spot b__law_spot
    have Gt := ok_told (P := P) (w := w) (base := base) (a := a) F__law_told T
    have G__law_is_height := ok_is_height (P := P) (w := w) (base := base) (a := a) T nP l__law_is_height c__law_is_height (TB (cA__law_is_height, Pt__law_is_height) (by simp)) Gt b__law_told G__law_pair_of b__law_pair_of G__law_pair b__law_pair G_Point___eq__ b_Point___eq__ G_Line_share b_Line_share G_Line_height b_Line_height G__law_made_point b__law_made_point G__law_cross_of b__law_cross_of G__law_difference b__law_difference
    have G__law_right := ok__law_right (P := P) (w := w) (base := base) (a := a) F__law_right T G_Line___eq__ b_Line___eq__ G_Line___init__ b_Line___init__ G__law_made_point b__law_made_point G_Point___eq__ b_Point___eq__ G__law_spot_of b__law_spot_of G__law_meets b__law_meets G_Line___and__ b_Line___and__ G__law_is_height b__law_is_height G__law_along b__law_along G__law_take b__law_take G__law_beside b__law_beside G__law_other_spot b__law_other_spot G__law_spot_near b__law_spot_near
    have G__law_odd_right := ok_odd_right (P := P) (w := w) (base := base) (a := a) T nP l__law_odd_right c__law_odd_right (TB (cA__law_odd_right, Pt__law_odd_right) (by simp)) Gt b__law_told G_Point___eq__ b_Point___eq__ G_Line___init__ b_Line___init__ G_Line_height b_Line_height G_Line_share b_Line_share G_Point___init__ b_Point___init__ G_Ratio___init__ b_Ratio___init__ d_Ratio___init__ G__law_odd b__law_odd
    exact ok_law (a := a) F_law T G__law_places b__law_places G__law_odd_right b__law_odd_right G__law_right b__law_right G__law_pot b__law_pot
end My

open PySem PySem.W PyProof.Rows
local macro_rules | `(tactic| walk_at "k_none") => `(tactic| first | kernel_rfl | rfl | decide +kernel)
set_option maxRecDepth 100000 in
set_option maxHeartbeats 0 in
theorem PySem.Challenge.cw_seenabout_k05_lines_holds : PySem.Challenge.rw_seenabout_k05_lines.Holds := by
  w_on; o_law; k_head; (case hw => w_witness2)
  k_fill
  refine G.walkOfT (l := PySem.Challenge.rw_seenabout_k05_lines) (n := 63) (k := 18) (x := "_law_script") (names := ["_law_is_height", "_law_odd_right"]) rfl (by decide) rfl ⟨rfl, by decide, by decide⟩ (by rfl) (fun w h Y => PySem.W.km_in_of Y) ?F
  case F =>
    intro w mg fa h KX G hmg tabs
    refine' My.all_mk KX G hmg (tabs _ (by simp)) (tabs _ (by simp)) ?n_abs ?n_all ?n_bool ?n_int ?n_isinstance ?n_len ?n_list ?n_max ?n_min ?n_range ?n_repr ?gG ?g_AboutError ?g_BadPoint ?g_Off ?x_AboutError ?x_BadPoint ?x_Off ?i0 ?tI ?sp ?tk ?eb ?g_Ratio ?g_Point ?g_Line ?l_init ?c_init ?k_init ?g__law_told ?l__law_told ?c__law_told ?k__law_told ?g__law_pot ?l__law_pot ?c__law_pot ?k__law_pot ?g__law_take ?l__law_take ?c__law_take ?k__law_take ?g__law_of ?l__law_of ?c__law_of ?k__law_of ?g__law_places ?l__law_places ?c__law_places ?k__law_places ?g_is_integer ?l_is_integer ?c_is_integer ?k_is_integer ?g_is_number ?l_is_number ?c_is_number ?k_is_number ?g_Ratio___init__ ?l_Ratio___init__ ?c_Ratio___init__ ?k_Ratio___init__ ?d_Ratio___init__ ?r_Ratio___init__ ?g_as_ratio ?l_as_ratio ?c_as_ratio ?k_as_ratio ?g_difference ?l_difference ?c_difference ?k_difference ?g_Ratio_divided ?l_Ratio_divided ?c_Ratio_divided ?k_Ratio_divided ?g_Ratio___add__ ?l_Ratio___add__ ?c_Ratio___add__ ?k_Ratio___add__ ?g_Ratio___sub__ ?l_Ratio___sub__ ?c_Ratio___sub__ ?k_Ratio___sub__ ?g_Ratio___mul__ ?l_Ratio___mul__ ?c_Ratio___mul__ ?k_Ratio___mul__ ?g_Ratio___eq__ ?l_Ratio___eq__ ?c_Ratio___eq__ ?k_Ratio___eq__ ?g__law_common ?l__law_common ?c__law_common ?k__law_common ?g__law_pair ?l__law_pair ?c__law_pair ?k__law_pair ?g__law_spot ?l__law_spot ?c__law_spot ?k__law_spot ?g__law_pair_of ?l__law_pair_of ?c__law_pair_of ?k__law_pair_of ?g__law_odd ?l__law_odd ?c__law_odd ?k__law_odd ?g_check_point ?l_check_point ?c_check_point ?k_check_point ?g_Point___init__ ?l_Point___init__ ?c_Point___init__ ?k_Point___init__ ?g_Point___eq__ ?l_Point___eq__ ?c_Point___eq__ ?k_Point___eq__ ?g_Point___sub__ ?l_Point___sub__ ?c_Point___sub__ ?k_Point___sub__ ?g_Point_towards ?l_Point_towards ?c_Point_towards ?k_Point_towards ?g_Line___init__ ?l_Line___init__ ?c_Line___init__ ?k_Line___init__ ?g_Line_height ?l_Line_height ?c_Line_height ?k_Line_height ?g_Line_share ?l_Line_share ?c_Line_share ?k_Line_share ?g_Line___and__ ?l_Line___and__ ?c_Line___and__ ?k_Line___and__ ?g_Line___eq__ ?l_Line___eq__ ?c_Line___eq__ ?k_Line___eq__ ?g__law_made_point ?l__law_made_point ?c__law_made_point ?k__law_made_point ?g__law_spot_of ?l__law_spot_of ?c__law_spot_of ?k__law_spot_of ?g__law_spot_near ?l__law_spot_near ?c__law_spot_near ?k__law_spot_near ?g__law_other_spot ?l__law_other_spot ?c__law_other_spot ?k__law_other_spot ?g__law_difference ?l__law_difference ?c__law_difference ?k__law_difference ?g__law_cross_of ?l__law_cross_of ?c__law_cross_of ?k__law_cross_of ?g__law_along ?l__law_along ?c__law_along ?k__law_along ?g__law_meets ?l__law_meets ?c__law_meets ?k__law_meets ?g__law_beside ?l__law_beside ?c__law_beside ?k__law_beside ?g__law_is_height ?l__law_is_height ?c__law_is_height ?k__law_is_height ?o__law_is_height ?v__law_is_height ?t__law_is_height ?g__law_right ?l__law_right ?c__law_right ?k__law_right ?g__law_odd_right ?l__law_odd_right ?c__law_odd_right ?k__law_odd_right ?o__law_odd_right ?v__law_odd_right ?t__law_odd_right ?g_law ?l_law ?c_law ?k_law ?ri1 ?ri4 ?ri5 ?ri6 ?ri7 ?ri8 ?cl1 ?cl2 ?cl3 ?cl4 ?mk1 ?mk2 ?mk3 ?eq1 ?eq2 ?eq3 ?ri1P ?ri4P ?ri5P ?ri6P ?ri7P ?ri8P ?cl1P ?cl2P ?cl3P ?cl4P ?mk1P ?mk2P ?mk3P ?eq1P ?eq2P ?eq3P ?ri1L ?ri4L ?ri5L ?ri6L ?ri7L ?ri8L ?cl1L ?cl2L ?cl3L ?cl4L ?mk1L ?mk2L ?mk3L ?eq1L ?eq2L ?eq3L ?nN ?nU ?nX ?nY ?nA ?nB ?rPL ?nLP ?r_add ?o_add ?r_sub ?o_sub ?r_mul ?o_mul ?sfP ?sfL ?fs_P ?ft_P ?fd_R ?fh_L ?fi_L ?fa_L ?xBBadPoint ?tBBadPoint ?xBOff ?tBOff ?nP
    (case n_abs => k_is)
    (case n_all => k_is)
    (case n_bool => k_is)
    (case n_int => k_is)
    (case n_isinstance => k_is)
    (case n_len => k_is)
    (case n_list => k_is)
    (case n_max => k_is)
    (case n_min => k_is)
    (case n_range => k_is)
    (case n_repr => k_is)
    (case gG => k_is)
    (case g_AboutError => k_is)
    (case g_BadPoint => k_is)
    (case g_Off => k_is)
    (case x_AboutError => k_is)
    (case x_BadPoint => k_is)
    (case x_Off => k_is)
    (case i0 => k_is)
    (case tI => k_is)
    (case sp => k_is)
    (case tk => k_is)
    (case eb => kernel_rfl)
    (case g_Ratio => k_is)
    (case g_Point => k_is)
    (case g_Line => k_is)
    (case l_init => k_is)
    (case c_init => k_is)
    (case k_init => k_is)
    (case g__law_told => k_is)
    (case l__law_told => k_is)
    (case c__law_told => k_is)
    (case k__law_told => k_is)
    (case g__law_pot => k_is)
    (case l__law_pot => k_is)
    (case c__law_pot => k_is)
    (case k__law_pot => k_is)
    (case g__law_take => k_is)
    (case l__law_take => k_is)
    (case c__law_take => k_is)
    (case k__law_take => k_is)
    (case g__law_of => k_is)
    (case l__law_of => k_is)
    (case c__law_of => k_is)
    (case k__law_of => k_is)
    (case g__law_places => k_is)
    (case l__law_places => k_is)
    (case c__law_places => k_is)
    (case k__law_places => k_is)
    (case g_is_integer => k_is)
    (case l_is_integer => k_is)
    (case c_is_integer => k_is)
    (case k_is_integer => k_is)
    (case g_is_number => k_is)
    (case l_is_number => k_is)
    (case c_is_number => k_is)
    (case k_is_number => k_is)
    (case g_Ratio___init__ => k_is)
    (case l_Ratio___init__ => k_is)
    (case c_Ratio___init__ => k_is)
    (case k_Ratio___init__ => k_is)
    (case d_Ratio___init__ => k_is)
    (case r_Ratio___init__ => first | exact .cons ⟨_, rfl⟩ .nil | exact .cons rfl .nil)
    (case g_as_ratio => k_is)
    (case l_as_ratio => k_is)
    (case c_as_ratio => k_is)
    (case k_as_ratio => k_is)
    (case g_difference => k_is)
    (case l_difference => k_is)
    (case c_difference => k_is)
    (case k_difference => k_is)
    (case g_Ratio_divided => k_is)
    (case l_Ratio_divided => k_is)
    (case c_Ratio_divided => k_is)
    (case k_Ratio_divided => k_is)
    (case g_Ratio___add__ => k_is)
    (case l_Ratio___add__ => k_is)
    (case c_Ratio___add__ => k_is)
    (case k_Ratio___add__ => k_is)
    (case g_Ratio___sub__ => k_is)
    (case l_Ratio___sub__ => k_is)
    (case c_Ratio___sub__ => k_is)
    (case k_Ratio___sub__ => k_is)
    (case g_Ratio___mul__ => k_is)
    (case l_Ratio___mul__ => k_is)
    (case c_Ratio___mul__ => k_is)
    (case k_Ratio___mul__ => k_is)
    (case g_Ratio___eq__ => k_is)
    (case l_Ratio___eq__ => k_is)
    (case c_Ratio___eq__ => k_is)
    (case k_Ratio___eq__ => k_is)
    (case g__law_common => k_is)
    (case l__law_common => k_is)
    (case c__law_common => k_is)
    (case k__law_common => k_is)
    (case g__law_pair => k_is)
    (case l__law_pair => k_is)
    (case c__law_pair => k_is)
    (case k__law_pair => k_is)
    (case g__law_spot => k_is)
    (case l__law_spot => k_is)
    (case c__law_spot => k_is)
    (case k__law_spot => k_is)
    (case g__law_pair_of => k_is)
    (case l__law_pair_of => k_is)
    (case c__law_pair_of => k_is)
    (case k__law_pair_of => k_is)
    (case g__law_odd => k_is)
    (case l__law_odd => k_is)
    (case c__law_odd => k_is)
    (case k__law_odd => k_is)
    (case g_check_point => k_is)
    (case l_check_point => k_is)
    (case c_check_point => k_is)
    (case k_check_point => k_is)
    (case g_Point___init__ => k_is)
    (case l_Point___init__ => k_is)
    (case c_Point___init__ => k_is)
    (case k_Point___init__ => k_is)
    (case g_Point___eq__ => k_is)
    (case l_Point___eq__ => k_is)
    (case c_Point___eq__ => k_is)
    (case k_Point___eq__ => k_is)
    (case g_Point___sub__ => k_is)
    (case l_Point___sub__ => k_is)
    (case c_Point___sub__ => k_is)
    (case k_Point___sub__ => k_is)
    (case g_Point_towards => k_is)
    (case l_Point_towards => k_is)
    (case c_Point_towards => k_is)
    (case k_Point_towards => k_is)
    (case g_Line___init__ => k_is)
    (case l_Line___init__ => k_is)
    (case c_Line___init__ => k_is)
    (case k_Line___init__ => k_is)
    (case g_Line_height => k_is)
    (case l_Line_height => k_is)
    (case c_Line_height => k_is)
    (case k_Line_height => k_is)
    (case g_Line_share => k_is)
    (case l_Line_share => k_is)
    (case c_Line_share => k_is)
    (case k_Line_share => k_is)
    (case g_Line___and__ => k_is)
    (case l_Line___and__ => k_is)
    (case c_Line___and__ => k_is)
    (case k_Line___and__ => k_is)
    (case g_Line___eq__ => k_is)
    (case l_Line___eq__ => k_is)
    (case c_Line___eq__ => k_is)
    (case k_Line___eq__ => k_is)
    (case g__law_made_point => k_is)
    (case l__law_made_point => k_is)
    (case c__law_made_point => k_is)
    (case k__law_made_point => k_is)
    (case g__law_spot_of => k_is)
    (case l__law_spot_of => k_is)
    (case c__law_spot_of => k_is)
    (case k__law_spot_of => k_is)
    (case g__law_spot_near => k_is)
    (case l__law_spot_near => k_is)
    (case c__law_spot_near => k_is)
    (case k__law_spot_near => k_is)
    (case g__law_other_spot => k_is)
    (case l__law_other_spot => k_is)
    (case c__law_other_spot => k_is)
    (case k__law_other_spot => k_is)
    (case g__law_difference => k_is)
    (case l__law_difference => k_is)
    (case c__law_difference => k_is)
    (case k__law_difference => k_is)
    (case g__law_cross_of => k_is)
    (case l__law_cross_of => k_is)
    (case c__law_cross_of => k_is)
    (case k__law_cross_of => k_is)
    (case g__law_along => k_is)
    (case l__law_along => k_is)
    (case c__law_along => k_is)
    (case k__law_along => k_is)
    (case g__law_meets => k_is)
    (case l__law_meets => k_is)
    (case c__law_meets => k_is)
    (case k__law_meets => k_is)
    (case g__law_beside => k_is)
    (case l__law_beside => k_is)
    (case c__law_beside => k_is)
    (case k__law_beside => k_is)
    (case g__law_is_height => k_is)
    (case l__law_is_height => k_is)
    (case c__law_is_height => k_is)
    (case k__law_is_height => k_is)
    (case o__law_is_height => k_is)
    (case v__law_is_height => rfl)
    (case t__law_is_height => walk_at "k_none")
    (case g__law_right => k_is)
    (case l__law_right => k_is)
    (case c__law_right => k_is)
    (case k__law_right => k_is)
    (case g__law_odd_right => k_is)
    (case l__law_odd_right => k_is)
    (case c__law_odd_right => k_is)
    (case k__law_odd_right => k_is)
    (case o__law_odd_right => k_is)
    (case v__law_odd_right => rfl)
    (case t__law_odd_right => walk_at "k_none")
    (case g_law => k_is)
    (case l_law => k_is)
    (case c_law => k_is)
    (case k_law => k_is)
    (case ri1 => k_is)
    (case ri4 => kernel_rfl)
    (case ri5 => kernel_rfl)
    (case ri6 => kernel_rfl)
    (case ri7 => kernel_rfl)
    (case ri8 => kernel_rfl)
    (case cl1 => k_is)
    (case cl2 => k_is)
    (case cl3 => k_is)
    (case cl4 => k_is)
    (case mk1 => k_is)
    (case mk2 => k_is)
    (case mk3 => k_is)
    (case eq1 => k_is)
    (case eq2 => k_is)
    (case eq3 => kernel_rfl)
    (case ri1P => k_is)
    (case ri4P => kernel_rfl)
    (case ri5P => kernel_rfl)
    (case ri6P => kernel_rfl)
    (case ri7P => kernel_rfl)
    (case ri8P => kernel_rfl)
    (case cl1P => k_is)
    (case cl2P => k_is)
    (case cl3P => k_is)
    (case cl4P => k_is)
    (case mk1P => k_is)
    (case mk2P => k_is)
    (case mk3P => k_is)
    (case eq1P => k_is)
    (case eq2P => k_is)
    (case eq3P => kernel_rfl)
    (case ri1L => k_is)
    (case ri4L => kernel_rfl)
    (case ri5L => kernel_rfl)
    (case ri6L => kernel_rfl)
    (case ri7L => kernel_rfl)
    (case ri8L => kernel_rfl)
    (case cl1L => k_is)
    (case cl2L => k_is)
    (case cl3L => k_is)
    (case cl4L => k_is)
    (case mk1L => k_is)
    (case mk2L => k_is)
    (case mk3L => k_is)
    (case eq1L => k_is)
    (case eq2L => k_is)
    (case eq3L => kernel_rfl)
    (case nN => k_is)
    (case nU => k_is)
    (case nX => k_is)
    (case nY => k_is)
    (case nA => k_is)
    (case nB => k_is)
    (case rPL => kernel_rfl)
    (case nLP => kernel_rfl)
    (case r_add => k_is)
    (case o_add => kernel_rfl)
    (case r_sub => k_is)
    (case o_sub => kernel_rfl)
    (case r_mul => k_is)
    (case o_mul => kernel_rfl)
    (case sfP => kernel_rfl)
    (case sfL => kernel_rfl)
    (case fs_P => k_is)
    (case ft_P => k_is)
    (case fd_R => k_is)
    (case fh_L => k_is)
    (case fi_L => k_is)
    (case fa_L => k_is)
    (case xBBadPoint => kernel_rfl)
    (case tBBadPoint => kernel_rfl)
    (case xBOff => kernel_rfl)
    (case tBOff => kernel_rfl)
    (case nP => decide)
