import PyProof.Rows.All
import Wide.All
import OpenK.AllK
import Wide.FinOn
import HandS.ForMost
import HandS.Exc
import HandS.ExcInit
import HandS.IsInst
import HandS.TupAny
import HandS.Conv
import HandS.Wide
import HandS.Deep
import KE.KExcIs
import HandS.Gcd
import HandS.Evl
import HandS.Walk
import HandS.SlotsOwn
import HandS.OwnEq
import KE.KOpsOwn
import PyProof.TwoTypes
import PyProof.EqKinds
import HandS.ExcValue
import HandS.Lambda
import KE.KEqDict
import HandS.EndTab
import HandS.ClsMeth
import HandS.Property
import HandS.Codes
import HandS.StrMore
import KE.OsScanText
import KE.IntTextLaws
import HandS.Comp
import HandS.Nested
import PyProof.InstNe
import HandS.Defaults
import KE.GoesMore
import KE.GoesEnum
import HandS.Zip
import HandS.FStr
import HandS.Style
import HandS.Text
import HandS.NoneIn
import HandS.WordsExc
import PySem.Challenge.RW_seenabout_k04_points
set_option Elab.async false
set_option linter.all false
set_option maxRecDepth 100000
set_option maxHeartbeats 4000000
/-! A layer over HandS: defs that are entered while nothing shows itself (so that repr may be told). -/
namespace G
open PySem PySem.Spec PyProof.Rows L2

abbrev Quiet (A : Around) : Prop := A.guards = some []

structure Fn (P : Program) (w : World) (K : PySem.W.Frag) (mg : Str → Option Value) (base : Heap) (CX : CXT) (k : Nat) (f : Addr) (fd : FuncData) (ps : List Str) (sp : Sp) : Prop where
  len : ∀ vs H Q E, sp vs H Q E → vs.length = ps.length
  run : ∀ (A : Around) (outer : List Env) (s : Shared) (H : Hp) (args : Args) (us : List Value) (vs : List V) (Q : VK) (E : XK), Quiet A → Room k A →
    Env0 P w K mg base A outer s H → BindsTo s fd args (ps.zip us) → Vals vs us → sp vs H Q E → codeAny (model P w) A (.call (.ref f) args) (CR CX outer P w H s Q E) s

section
variable {P : Program} {w : World} {K : PySem.W.Frag} {mg : Str → Option Value} {base : Heap} {CX : CXT}
theorem Fn.mono {j k : Nat} {f : Addr} {fd : FuncData} {ps : List Str} {sp : Sp} (F : Fn P w K mg base CX j f fd ps sp) (h : j ≤ k) : Fn P w K mg base CX k f fd ps sp :=
  ⟨F.len, fun A outer s H args us vs Q E hq hr => F.run A outer s H args us vs Q E hq (hr.mono h)⟩
/-- what is told of all surroundings is told of quiet ones -/
theorem Fn.ofOk {k : Nat} {f : Addr} {fd : FuncData} {ps : List Str} {sp : Sp} (F : FnOk P w K mg base CX k f fd ps sp) : Fn P w K mg base CX k f fd ps sp :=
  ⟨F.len, fun A outer s H args us vs Q E _ hr => F.run A outer s H args us vs Q E hr⟩

theorem fnOf {k : Nat} {f : Addr} {name qual : Str} {params : Arguments} {body : List Stmt} {scope : Scope} {kV doc pm cdv ct oc : Value} {an od : Option Addr} {osl : Array (Option Value)} {N ps : List Str} {sp : Sp}
    (lk : K.lookup f = some ⟨oc, od, .func (PySem.W.fnOf name qual params body scope .none kV doc pm an cdv ct), osl⟩) (hcd : PySem.W.codeIn K cdv qual = true)
    (S : FnScope N ps scope) (len : ∀ vs H Q E, sp vs H Q E → vs.length = ps.length)
    (body_ok : ∀ (A : Around) (outer : List Env) (s : Shared) (H : Hp) (vs : List V) (Q : VK) (E : XK), Quiet A → Room k (A.deeper (envOfC qual scope s.heap.objs.size f cdv)) → sp vs H Q E →
      ∃ t, PSs (cxOf CX P w K mg base N qual scope f cdv A outer s H E) body t ∧ t { nx := fun _ H' => Q .non H', rt := Q } (start N vs) H) :
    Fn P w K mg base CX (k + 1) f (PySem.W.fnOf name qual params body scope .none kV doc pm an cdv ct) ps sp := by
  constructor
  · exact len
  intro A outer s H args us vs Q E hq hr e0 hb r hsp
  have hl : vs.length = ps.length := len _ _ _ _ hsp
  have inS : K.In s.heap := e0.mod.kin.keeps (fun b o e => (e0.bs b o e).1)
  have noL : s.heap.NoLimit := e0.mod.nolimit.keeps (fun b o e => (e0.bs b o e).1)
  have kinds : ∀ y ∈ ps.zip us, scope.names.lookup y.1 = some .local ∨ (scope.names.lookup y.1 = some .cell ∧ ((cellsFrom (s.heap.objs.size + 1) scope.names []).lookup y.1).isSome = true) := by
    rintro ⟨n, v⟩ hy
    cases S.par n (List.of_mem_zip hy).1 with
    | inl q => exact Or.inl q
    | inr q => exact Or.inr ⟨q, PySem.W.cellsFrom_some _ _ _ (Or.inl q)⟩
  apply codeAny_call_function hr.depth (inS _ _ lk) rfl S.co S.gen rfl (PySem.W.codeRec_of inS hcd)
  refine hb _ _ _ _ (wpAny_newFunctionEnv_cells S.kind kinds ?_)
  intro env he s1 x
  cases he
  constructor
  · exact noL.keeps x.toInCall.keep
  apply codeAny_func
  obtain ⟨t, ht, q0⟩ := body_ok A outer s H vs Q E hq (hr.deeper _) hsp
  have I := inv_start (CX := CX) (P := P) (w := w) (K := K) (mg := mg) (base := base) (E := E) S hr.hd e0 hl r x
  apply wpAny_mono (ht.run [] s1 (start N vs) H _ I q0)
  · intro fl s' hs
    cases fl with
    | ret u => obtain ⟨v, σ', H', J, rv, q⟩ := hs; exact ⟨v, H', J.os, J.bare, J.base, J.hok, rv, q⟩
    | next => obtain ⟨σ', H', J, q⟩ := hs; exact ⟨V.non, H', J.os, J.bare, J.base, J.hok, rfl, q⟩
    | brk => exact hs.elim fun _ z => z.elim fun _ z => z.2.elim
    | cont => exact hs.elim fun _ z => z.elim fun _ z => z.2.elim
  · intro e s' hs
    exact hs

theorem ok {x qual : Str} {st : Stmt} {f : Addr} {fd : FuncData} {N ps : List Str} {k : Nat} {sp : Sp} (F : Fun K x qual st f fd) (S : FnScope N ps (defScope st)) (len : ∀ vs H Q E, sp vs H Q E → vs.length = ps.length)
    (body_ok : ∀ (cdv : Value) (A : Around) (outer : List Env) (s : Shared) (H : Hp) (vs : List V) (Q : VK) (E : XK), Quiet A → Room k (A.deeper (envOfC qual (defScope st) s.heap.objs.size f cdv)) → sp vs H Q E →
      ∃ t, PSs (cxOf CX0 P w K mg base N qual (defScope st) f cdv A outer s H E).nox (defBody st) t ∧ t { nx := fun _ H' => Q .non H', rt := Q } (start N vs) H) :
    Fn P w K mg base CX0 (k + 1) f fd ps sp := by
  obtain ⟨_, _, _, _, _, _, cdv, _, _, rfl, lk, hcd⟩ := F.ex
  apply fnOf lk hcd S len
  intro A outer s H vs Q E hq hr hsp
  obtain ⟨t, h, q⟩ := body_ok cdv A outer s H vs Q E hq hr hsp
  exact ⟨t, h.nox, q⟩
end

section
variable {X : Cx} {CX : CXT} {k : Nat} {f C : Addr} {fd : FuncData} {ps : List Str} {sp : Sp} {dvs : List V} {ds : List Value} {E : XK} {x m : Str} {p pos apos : Pos} {e o : Expr} {es : List Expr} {ta : TE} {t : TA}
theorem runFn {pins : List (Addr × Obj)} {σ : L2.St} {H : Hp} {s : Shared} {Q : VK} {us : List Value} {vs : List V} (F : Fn X.prog X.w X.K X.mg X.base CX k f fd ps sp) (hq : Quiet X.A) (hr : Room k X.A) (hb : Binds X.K fd ps ds) (hd : Vals dvs ds)
    (hx : Passes CX X E) (I : Inv X pins σ H s) (r : Vals vs us) (h : sp (vs ++ dvs) H Q E) : wpAny (model X.prog X.w) X.A (call (.ref f) us) (EP X pins σ Q) X.xe s := by
  have r2 : Vals (vs ++ dvs) (us ++ ds) := r.append hd
  have hl : (us ++ ds).length = ps.length := r2.length.symm.trans (F.len _ _ _ _ h)
  apply wpAny_call
  apply codeAny_mono (F.run X.A X.stack s H ⟨us, []⟩ (us ++ ds) (vs ++ dvs) Q E hq hr I.env0 (hb s us I.kIn hl) r2 h)
  intro res s' done
  match res, done with
  | .error e, z => exact hx pins σ H s e s' I z
  | .ok (.ret u), z => exact I.after z
  | .ok .next, z => exact z.elim
  | .ok .brk, z => exact z.elim
  | .ok .cont, z => exact z.elim
/-- f(e, ..) -/
theorem pe_fn (F : Fn X.prog X.w X.K X.mg X.base CX k f fd ps sp) (hq : Quiet X.A) (hr : Room k X.A) (hg : Gl X x) (hm : X.mg x = some (.ref f)) (hk : PySem.W.keepIn X.K (.ref f) = true) (hb : Binds X.K fd ps ds) (hd : Vals dvs ds) (hx : Passes CX X E)
    (ha : PA X (e :: es) t) (hdb : (x == ("__debug__" : Str)) = false := by decide) (he : starEach (e :: es) X.env = (false, eval e X.env) :: starEach es X.env := by rfl) (hpl : (backTo pos (starEach es X.env)).any (·.1) = false := by rfl) :
    PE X (.Call (.Name x p) (e :: es) [] pos) (tCall sp dvs E t) := by
  constructor
  intro pins s σ H Q I h
  apply wpAny_Call_Name_kw
  apply ld_glob I hg hm _ hdb
  apply PySem.W.callWith_K (h₀ := X.base) I.ok.mod.kin hk _ he hpl
  apply thn (ha.run pos pins s σ H _ I h)
  rintro us s1 ⟨vs, H1, I1, r, q⟩
  exact ⟨I1.kIn, runFn F hq hr hb hd hx I1 r q⟩
/-- f() -/
theorem pe_fn0 (F : Fn X.prog X.w X.K X.mg X.base CX k f fd ps sp) (hq : Quiet X.A) (hr : Room k X.A) (hg : Gl X x) (hm : X.mg x = some (.ref f)) (hk : PySem.W.keepIn X.K (.ref f) = true) (hb : Binds X.K fd ps ds) (hd : Vals dvs ds) (hx : Passes CX X E)
    (hdb : (x == ("__debug__" : Str)) = false := by decide) : PE X (.Call (.Name x p) [] [] pos) (tCall sp dvs E tNil) := by
  constructor
  intro pins s σ H Q I h
  apply wpAny_Call_Name_kw
  apply ld_glob I hg hm _ hdb
  exact PySem.W.callWith_K0 I.kIn hk (runFn (us := []) F hq hr hb hd hx I .nil h)
end
end G

namespace G
open PySem PySem.Spec PyProof.Rows L2

/-! ### what a value of the abstract heap reads as, dicts with plain keys among it -/
def keyD : Key → PyData
  | .inl i => .int i
  | .inr x => .str x
mutual
inductive Da (H : Hp) : V → PyData → Prop
  | non : Da H .non .none
  | bl (b : Bool) : Da H (.bl b) (.bool b)
  | int (i : Int) : Da H (.int i) (.int i)
  | str (x : Str) : Da H (.str x) (.str x)
  | lst {a : Addr} {xs : List V} {ds : List PyData} : H a = some (.lst xs) → a ≠ sysModules → DaAll H xs ds → Da H (.ref a) (.list ds)
  | tup {a : Addr} {xs : List V} {ds : List PyData} : H a = some (.tup xs) → DaAll H xs ds → Da H (.ref a) (.tuple ds)
  | dct {a : Addr} {kvs : List (Key × V)} {ds : List PyData} : H a = some (.dK kvs) → DaAll H (kvs.map (·.2)) ds → Da H (.ref a) (.dict ((kvs.map fun p => keyD p.1).zip ds))
inductive DaAll (H : Hp) : List V → List PyData → Prop
  | nil : DaAll H [] []
  | cons {v : V} {vs : List V} {d : PyData} {ds : List PyData} : Da H v d → DaAll H vs ds → DaAll H (v :: vs) (d :: ds)
end
theorem DaAll.length {H : Hp} : ∀ {vs : List V} {ds : List PyData}, DaAll H vs ds → vs.length = ds.length
  | _, _, .nil => rfl
  | _, _, .cons _ t => congrArg (· + 1) (DaAll.length t)
mutual
theorem Da.same {H H' : Hp} (S : Same H H') : ∀ {v : V} {d : PyData}, Da H v d → Da H' v d
  | _, _, .non => .non
  | _, _, .bl b => .bl b
  | _, _, .int i => .int i
  | _, _, .str x => .str x
  | _, _, .lst e n t => .lst (S _ _ e) n (DaAll.same S t)
  | _, _, .tup e t => .tup (S _ _ e) (DaAll.same S t)
  | _, _, .dct e t => .dct (S _ _ e) (DaAll.same S t)
theorem DaAll.same {H H' : Hp} (S : Same H H') : ∀ {vs : List V} {ds : List PyData}, DaAll H vs ds → DaAll H' vs ds
  | _, _, .nil => .nil
  | _, _, .cons h t => .cons (Da.same S h) (DaAll.same S t)
end
theorem reads_keys {P : Program} {w : World} (h : Heap) : ∀ {es : List DictEntry} {kvs : List (Key × Value)}, Pairs (mixKind P w) es kvs → ReadsAll h (es.map (·.key)) (kvs.map fun p => keyD p.1) []
  | _, _, .nil => .nil
  | _, _, .cons (e := e) (kv := kv) hk _ t => by
    have h1 : Reads h e.key (keyD kv.1) [] := by
      rcases keyIs_shape (k := kv.1) (v := e.key) hk with ⟨i, t, e1, e2⟩ | ⟨x, t, e1, e2⟩
      · rw [e1, e2]; exact Reads.int i t
      · rw [e1, e2]; exact Reads.str x t
    exact ReadsAll.cons (as := []) (bs := []) h1 (reads_keys h t)
theorem vals_of_pairs {P : Program} {w : World} : ∀ {es : List DictEntry} {kvs : List (Key × Value)}, Pairs (mixKind P w) es kvs → es.map (·.val) = kvs.map (·.2)
  | _, _, .nil => rfl
  | _, _, .cons _ hv t => by rw [List.map_cons, List.map_cons, hv, vals_of_pairs t]
theorem KV.keys {kvs : List (Key × V)} {vs : List (Key × Value)} (r : KV kvs vs) : kvs.map (fun p => keyD p.1) = vs.map (fun p => keyD p.1) := by
  induction r with
  | nil => rfl
  | cons h _ ih => rw [List.map_cons, List.map_cons, h.1, ih]
theorem KV.valsV {kvs : List (Key × V)} {vs : List (Key × Value)} (r : KV kvs vs) : Vals (kvs.map (·.2)) (vs.map (·.2)) := by
  induction r with
  | nil => exact .nil
  | cons h _ ih => exact .cons h.2 ih

section
variable {X : Cx} {pins : List (Addr × Obj)} {σ : L2.St} {H : Hp} {s : Shared}
mutual
theorem Da.reads (I : Inv X pins σ H s) : ∀ {v : V} {d : PyData} {u : Value}, Da H v d → RelV v u → ∃ as, Reads s.heap u d as ∧ sysModules ∉ as
  | _, _, _, .non, r => by cases r; exact ⟨_, .none, by simp⟩
  | _, _, _, .bl b, r => by cases r; exact ⟨_, .bool b, by simp⟩
  | _, _, _, .int i, r => by obtain ⟨t, rfl⟩ := r; exact ⟨_, .int i t, by simp⟩
  | _, _, _, .str x, r => by obtain ⟨t, rfl⟩ := r; exact ⟨_, .str x t, by simp⟩
  | _, _, _, .lst e n t, r => by
    cases r
    obtain ⟨_, its, m, rv, ho⟩ := I.hok _ _ e
    obtain ⟨as, hr, hn⟩ := DaAll.reads I t rv
    exact ⟨_, .list ho rfl rfl hr, by simp only [List.mem_cons, not_or]; exact ⟨fun z => n z.symm, hn⟩⟩
  | _, _, _, .tup e t, r => by
    cases r
    obtain ⟨_, its, rv, o, ho, hc, m, hd⟩ := I.hok _ _ e
    obtain ⟨as, hr, hn⟩ := DaAll.reads I t rv
    exact ⟨_, .tuple ho hc hd hr, hn⟩
  | _, _, _, .dct (a := a) (kvs := kvs) (ds := ds) e t, r => by
    cases r
    obtain ⟨_, hs, vs, rel, o, es, ep, ho, hx, hd, hk, hp, _⟩ := I.hok _ _ e
    obtain ⟨bs, hr, hn⟩ := DaAll.reads I t (KV.valsV rel)
    have e1 : (((kvs.map fun p => keyD p.1).zip ds).map (·.1)) = vs.map fun p => keyD p.1 := by
      rw [List.map_fst_zip (by rw [List.length_map]; have := t.length; rw [List.length_map] at this; omega)]
      exact KV.keys rel
    have e2 : (((kvs.map fun p => keyD p.1).zip ds).map (·.2)) = ds :=
      List.map_snd_zip (by rw [List.length_map]; have := t.length; rw [List.length_map] at this; omega)
    refine ⟨_, .dict (as := []) (bs := bs) ho hx.1 hd ?_ ?_, ?_⟩
    · rw [e1]; exact reads_keys s.heap hp
    · rw [e2, vals_of_pairs hp]; exact hr
    · have : sysModules ≠ a := fun z => by rw [← z] at hs; exact absurd hs (by decide)
      simp only [List.append_nil, List.singleton_append, List.mem_cons, not_or]
      exact ⟨this, hn⟩
theorem DaAll.reads (I : Inv X pins σ H s) : ∀ {vs : List V} {ds : List PyData} {us : List Value}, DaAll H vs ds → Vals vs us → ∃ as, ReadsAll s.heap us ds as ∧ sysModules ∉ as
  | _, _, _, .nil, r => by cases r; exact ⟨_, .nil, by simp⟩
  | _, _, _, .cons h t, r => by
    cases r with
    | cons r1 r2 =>
      obtain ⟨as, q1, n1⟩ := Da.reads I h r1
      obtain ⟨bs, q2, n2⟩ := DaAll.reads I t r2
      exact ⟨_, .cons q1 q2, by rw [List.mem_append, not_or]; exact ⟨n1, n2⟩⟩
end
end

/-! ### data that is short enough to be shown -/
structure Gd (n k : Nat) (d : PyData) : Prop where
  short : d.leavesShort 13 = true
  show_ : d.showable = true
  depth : d.depth ≤ k
  weight : d.weight ≤ n
theorem Gd.mono {m n j k : Nat} {d : PyData} (g : Gd m j d) (h : m ≤ n) (h2 : j ≤ k) : Gd n k d := ⟨g.short, g.show_, Nat.le_trans g.depth h2, Nat.le_trans g.weight h⟩
theorem Gd.fits {n k : Nat} {d : PyData} (g : Gd n k d) (h : n ≤ 2 ^ 20) : d.shown.length ≤ sizeLine := PyData.shown_fits (by decide) (by decide) g.short (Nat.le_trans g.weight h)
/-- by a look: for written data -/
def gdB (n k : Nat) (d : PyData) : Bool := d.leavesShort 13 && (d.showable && (decide (d.depth ≤ k) && decide (d.weight ≤ n)))
theorem gdB_ok {n k : Nat} {d : PyData} (h : gdB n k d = true) : Gd n k d := by
  obtain ⟨h1, h⟩ := Bool.and_eq_true_iff.mp h
  obtain ⟨h2, h⟩ := Bool.and_eq_true_iff.mp h
  obtain ⟨h3, h4⟩ := Bool.and_eq_true_iff.mp h
  exact ⟨h1, h2, of_decide_eq_true h3, of_decide_eq_true h4⟩
theorem gd_all {n k : Nat} : ∀ {ds : List PyData}, (∀ d ∈ ds, Gd n k d) → PyData.leavesShortAll 13 ds = true ∧ PyData.showableAll ds = true ∧ PyData.depthAll ds ≤ k ∧ PyData.weightAll ds ≤ ds.length * (n + 1)
  | [], _ => ⟨by simp [PyData.leavesShortAll], by simp [PyData.showableAll], by simp [PyData.depthAll], by simp [PyData.weightAll]⟩
  | d :: ds, h => by
    obtain ⟨a, b, c, e⟩ := gd_all (fun x hx => h x (List.mem_cons_of_mem _ hx))
    have g := h d (List.mem_cons_self ..)
    refine ⟨by simp [PyData.leavesShortAll, g.short, a], by simp [PyData.showableAll, g.show_, b], ?_, ?_⟩
    · simp only [PyData.depthAll]; have := g.depth; omega
    · simp only [PyData.weightAll, List.length_cons, Nat.succ_mul]; have := g.weight; omega
theorem gd_tup {n k m N : Nat} {ds : List PyData} (h : ∀ d ∈ ds, Gd n k d) (hl : ds.length ≤ m) (hN : m * (n + 1) ≤ N) : Gd N (k + 1) (.tuple ds) := by
  obtain ⟨a, b, c, e⟩ := gd_all h
  have : ds.length * (n + 1) ≤ m * (n + 1) := Nat.mul_le_mul_right _ hl
  exact ⟨by simpa [PyData.leavesShort] using a, by simpa [PyData.showable] using b, by simp only [PyData.depth]; omega, by simp only [PyData.weight]; omega⟩
theorem gd_lst {n k m N : Nat} {ds : List PyData} (h : ∀ d ∈ ds, Gd n k d) (hl : ds.length ≤ m) (hN : m * (n + 1) ≤ N) : Gd N (k + 1) (.list ds) := by
  obtain ⟨a, b, c, e⟩ := gd_all h
  have : ds.length * (n + 1) ≤ m * (n + 1) := Nat.mul_le_mul_right _ hl
  exact ⟨by simpa [PyData.leavesShort] using a, by simpa [PyData.showable] using b, by simp only [PyData.depth]; omega, by simp only [PyData.weight]; omega⟩

section
variable {X : Cx}
/-- repr of data, where nothing shows itself -/
theorem call_reprD (hq : Quiet X.A) (hu : X.A.units + 64 < cLine) : CallR X (.builtin "repr") (fun xs H Q => ∃ v d n k, xs = [v] ∧ Da H v d ∧ Gd n k d ∧ (n ≤ 2 ^ 20 ∧ k ≤ 20) ∧ Q (.str d.shown) H) := by
  intro pins s σ H xs us Q I r h
  obtain ⟨v, d, n, k, rfl, hd, g, ⟨hn, hk⟩, q⟩ := h
  obtain ⟨u, rfl, ru⟩ := vals1 r
  have fits := g.fits hn
  have tail : ∀ (A : Addr), u = .ref A → wpAny (model X.prog X.w) X.A (call (.builtin "repr") [u]) (EP X pins σ Q) X.xe s := by
    rintro a rfl
    obtain ⟨as, hr, hns⟩ := Da.reads I hd ru
    refine repr_of_reads' (h₀ := s.heap) hr g.show_ (fun _ => hns) hq (by have := g.depth; omega) (fun _ _ z => z) (fun h' t tk hk => ?_) fits
    exact ⟨.str d.shown, H, I.kept hk, ⟨_, rfl⟩, q⟩
  cases hd with
  | non => cases ru; exact P.repr_of_none ⟨.str _, H, I.tok _, ⟨_, rfl⟩, q⟩
  | bl b =>
    cases ru
    refine P.repr_of_bool ?_
    exact ⟨.str _, H, I.tok _, ⟨_, rfl⟩, q⟩
  | int i =>
    obtain ⟨t, rfl⟩ := ru
    have hz : i.natAbs.log2 < 1920 := by have := g.show_; simpa [PyData.showable] using this
    exact P.repr_of_int hz ⟨.str _, H, I.tok _, ⟨_, rfl⟩, q⟩
  | str x =>
    obtain ⟨t, rfl⟩ := ru
    exact P.repr_of_str ⟨.str _, H, I.tok _, ⟨_, rfl⟩, q⟩ fits
  | lst e n t => cases ru; exact tail _ rfl
  | tup e t => cases ru; exact tail _ rfl
  | dct e t => cases ru; exact tail _ rfl
end
end G

namespace G
open PySem PySem.Spec PyProof.Rows L2

/-! ### errors of own classes as values: made, read, asked for their class -/
/-- what the written part says of an error's class -/
structure EC (K : PySem.W.Frag) (C : Addr) : Prop where
  ox : OexC K C
  hd : PySem.W.hasDictIn K C = true
  ga : PySem.W.findIn K (.ref C) "__getattribute__" = some (some (.builtin "BaseException.__getattribute__"))
  gg : PySem.W.findIn K (.ref C) "__getattr__" = some none
  nv : PySem.W.findIn K (.ref C) "value" = some none
  kl : PySem.W.findIn K (.ref C) "__class__" = some (some (.builtin "object.__class__"))
  ob : PySem.W.mroIn K C (.type "object") = some true
structure EK (K : PySem.W.Frag) : Prop where
  sp : PySem.W.specialIn K (.builtin "object.__class__") "__get__" = some (some (.builtin "getset_descriptor.__get__"))
  tk : PySem.W.takesIn K (.builtin "object.__class__") = some true
/-- an error of the class at C that keeps v -/
def ErrAt (H : Hp) (a C : Addr) (v : V) : Prop := ∃ d, H a = some (exo a C (some d)) ∧ H d = some (exd d [("value", v)])
theorem ErrAt.same {H H' : Hp} (S : Same H H') {a C : Addr} {v : V} (e : ErrAt H a C v) : ErrAt H' a C v := let ⟨d, h1, h2⟩ := e; ⟨d, S _ _ h1, S _ _ h2⟩
theorem EC.cls {K : PySem.W.Frag} {C : Addr} (T : EC K C) : (PySem.W.clsIn K C).isSome = true := by
  have h := T.hd
  unfold PySem.W.hasDictIn at h
  cases e : PySem.W.clsIn K C with
  | none => rw [e] at h; exact absurd h (by decide)
  | some c => rfl
section
variable {X : Cx}
theorem err_inst {pins : List (Addr × Obj)} {σ : L2.St} {H : Hp} {s : Shared} (I : Inv X pins σ H s) {a C : Addr} {v : V} (e : ErrAt H a C v) :
    ∃ (ox : Obj) (od : Obj) (mA : Str → Option Value) (dx : Addr), PySem.W.InstAt s.heap a ox C (some od) ∧ s.heap.Ns1 dx mA ∧ s.heap.get? dx = some od ∧ (∀ f, RelO (([("value", v)] : List (Str × V)).lookup f) (mA f)) := by
  obtain ⟨d, h1, h2⟩ := e
  obtain ⟨t1, ho⟩ := exo_at I.hok h1
  obtain ⟨mA, hn, hr⟩ := exd_at I.hok h2
  obtain ⟨o, es, ep, hd, hz⟩ := id hn
  exact ⟨_, o, mA, d, ⟨ho, rfl, rfl, hd⟩, hn, hd, hr⟩
/-- e.value -/
theorem pe_value {e : Expr} {te : TE} {pos : Pos} (he : PE X e te) (hb : attributeBase e "value" X.env (eval e X.env) = eval e X.env := by rfl) :
    PE X (.Attribute e "value" pos) (fun σ H Q => te σ H fun x H1 => ∃ a C v, x = .ref a ∧ EC X.K C ∧ ErrAt H1 a C v ∧ Q v H1) := by
  constructor
  intro pins s σ H Q I h
  refine attr_of hb (thn (he.run pins s σ H _ I h) ?_)
  rintro u s1 ⟨x, H1, I1, rx, a, C, v, rfl, T, ea, q⟩
  cases rx
  obtain ⟨ox, od, mA, dx, J, hn, hd, hr⟩ := err_inst I1 ea
  obtain ⟨od', hod, hl⟩ := lookIn_ns hn
  have eo : od' = od := Option.some.inj (hod.symm.trans hd)
  subst eo
  obtain ⟨u, hu, ru⟩ := RelO.some_of (v := v) (o := mA "value") (by have := hr "value"; simpa [List.lookup] using this)
  exact HandSPX.exc_get I1.kIn J T.ga T.gg T.ox.exC (PySem.W.findObj_own T.hd T.nv rfl (by rw [hl, hu])) (handed_of ru) ⟨v, H1, I1.tok _, ru, q⟩
/-- isinstance(e, C) of such an error -/
theorem call_isErr (S : EK X.K) : CallR X (.builtin "isinstance") (fun xs H Q => ∃ (a C : Addr) (v c : V) (u : Value) (b : Bool), xs = [.ref a, c] ∧ ClsV c u ∧ EC X.K C ∧ ErrAt H a C v ∧ PySem.W.kitOne X.K (.ref C) u = some b ∧ Q (.bl b) H) := by
  intro pins s σ H xs us Q I r h
  obtain ⟨a, C, v, c, u, b, rfl, k, T, ea, e, q⟩ := h
  obtain ⟨u1, u2, rfl, r1, r2⟩ := vals2 r
  have e2 := k.eq r2
  subst e2
  cases r1
  obtain ⟨ox, od, mA, dx, J, hn, hd, hr⟩ := err_inst I ea
  exact PySem.W.kia_one (PySem.W.kitx_exc (gt := none) T.cls T.ga T.gg T.ox.exC T.kl S.sp S.tk T.ob) I.kIn J e (fun z => nomatch z) fun tk => ⟨.bl b, H, I.tok tk, rfl, q⟩

/-- what __init__ of the errors promises: the first attribute, value -/
def spErrInit (K : PySem.W.Frag) : Sp := fun vs H Q _ => ∃ (a C : Addr) (v : V), vs = [.ref a, v] ∧ OexC K C ∧ PySem.W.findIn K (.ref C) "value" = some none ∧ H a = some (exo a C none) ∧
  ∀ dx, H dx = none → dx ≠ a → Q .non (upd (upd H dx (exd dx [("value", v)])) a (exo a C (some dx)))
/-- C(e): a new error of the class at C, with its dict -/
def tErr (C : Addr) (ta : TA) : TE := fun σ H Q => ta σ H fun vs H1 => ∃ v, vs = [v] ∧ ∀ a H2, H1 a = none → Same H1 H2 → ErrAt H2 a C v → Q (.ref a) H2
theorem pe_err {CX : CXT} {k : Nat} {fI C : Addr} {fd : FuncData} {x : Str} {e : Expr} {ta : TA} {p pos : Pos} (T : EC X.K C) (iC : PySem.W.findIn X.K (.ref C) "__init__" = some (some (.ref fI))) (tI : PySem.W.typeIn X.K (.ref fI) = some (.type "function"))
    (F : FnOk X.prog X.w X.K X.mg X.base CX k fI fd ["self", "value"] (spErrInit X.K)) (hr : Room (k + 1) X.A) (hb : Binds X.K fd ["self", "value"] []) (hx : Passes CX X (fun _ _ _ => False)) (hg : Gl X x) (hm : X.mg x = some (.ref C)) (ha : PA X [e] ta)
    (hdb : (x == ("__debug__" : Str)) = false := by decide) (he : starEach (e :: []) X.env = (false, eval e X.env) :: starEach [] X.env := by rfl) (hpl : (backTo pos (starEach [] X.env)).any (·.1) = false := by rfl) :
    PE X (.Call (.Name x p) [e] [] pos) (tErr C ta) := by
  constructor
  intro pins s σ H Q I h
  obtain ⟨nm, q, N, bs, bm, sn, sub, ab, col, dd, k0, k1, k2, k3, k5, hC, hbm⟩ := T.ox.cls
  apply wpAny_Call_Name_kw
  apply ld_glob I hg hm _ hdb
  apply PySem.W.callWith_K (h₀ := X.base) I.ok.mod.kin T.ox.kC _ he hpl
  apply thn (ha.run pos pins s σ H _ I h)
  rintro us s1 ⟨vs, H1, I1, r1, v, rfl, q1⟩
  refine ⟨I1.kIn, ?_⟩
  obtain ⟨u, rfl, ru⟩ := vals1 r1
  show wpAny _ _ (call (.ref C) [u]) _ _ _
  obtain ⟨hp, g, dr, tk, os⟩ := s1
  have up : hp.objs.size ≤ hp.objs.size + 1 := Nat.le_succ _
  have fresh : H1 (hp.objs.size + 1) = none := I1.hok.fresh up
  have keep : ∀ b o, hp.get? b = some o → ((hp.push (PySem.W.kdv_tup [u])).push (PySem.HandSPX.excO C hp.objs.size)).get? b = some o := fun b o z => Heap.get?_push_of_some _ (Heap.get?_push_of_some _ z)
  have here : ((hp.push (PySem.W.kdv_tup [u])).push (PySem.HandSPX.excO C hp.objs.size)).get? (hp.objs.size + 1) = some (PySem.HandSPX.excO C hp.objs.size) := by heap_get
  have J := I1.laid (t' := tk) (a := hp.objs.size + 1) (o := exo (hp.objs.size + 1) C none) keep up (exo_ok here)
  have sp : spErrInit X.K [.ref (hp.objs.size + 1), v] (upd H1 (hp.objs.size + 1) (exo (hp.objs.size + 1) C none)) (fun w H2 => w = .non ∧ Q (.ref (hp.objs.size + 1)) H2) (fun _ _ _ => False) := by
    refine ⟨hp.objs.size + 1, C, v, rfl, T.ox, T.nv, upd_same, fun dx hdx hne => ⟨rfl, q1 _ _ fresh ?_ ⟨dx, upd_same, ?_⟩⟩⟩
    · intro b o z
      rw [upd_ne hne] at hdx
      rw [upd_ne (ne_of_none z fresh), upd_ne (ne_of_none z hdx), upd_ne (ne_of_none z fresh)]
      exact z
    · rw [upd_ne hne]; exact upd_same
  apply wpAny_call
  apply PySem.HandSPX.call_own F_ve (fun Y => PySem.HandSPX.refsVE_contains Y bm hbm) (I1.kIn _ _ hC) (PySem.W.looks_findIn I1.kIn iC) (fun self => PySem.W.bind_fn I1.kIn self tI) (by rw [List.length_singleton, sizeLine_eq]; omega)
  have B := hb ⟨(hp.push (PySem.W.kdv_tup [u])).push (PySem.HandSPX.excO C hp.objs.size), g, dr, tk, os⟩ [.ref (hp.objs.size + 1), u] J.kIn rfl
  apply codeAny_mono (F.run _ X.stack _ _ ⟨[.ref (hp.objs.size + 1), u], []⟩ [.ref (hp.objs.size + 1), u] [.ref (hp.objs.size + 1), v] _ (fun _ _ _ => False) (hr.make C [u] []) (J.env0.make C [u] []) B (.cons rfl (.cons ru .nil)) sp)
  intro res s' done
  match res, done with
  | .error er, z => exact hx pins σ _ _ er s' J z
  | .ok .next, z => exact z.elim
  | .ok .brk, z => exact z.elim
  | .ok .cont, z => exact z.elim
  | .ok (.ret w), z =>
    obtain ⟨y, H2, J2, ry, ey, q2⟩ := J.after z
    subst ey
    exact ⟨ry, .ref (hp.objs.size + 1), H2, J2, rfl, q2⟩
where F_ve := PySem.F.excBase_ValueError
end
end G

namespace G
open PySem PySem.Spec PyProof.Rows L2

/-! ### the law's own call, entered while nothing shows itself -/
theorem lawCall {P : Program} {w : World} {K : PySem.W.Frag} {mg mb : Str → Option Value} {k : Nat} {fa a : Addr} {fd : FuncData} {x : Str} {sp : Sp} {s₁ : Shared} {vs : List Value} {ns : List Int}
    (KX : K.In s₁.heap) (glob : s₁.heap.Ns mainGlobals mg) (bltn : s₁.heap.Ns builtinsNs mb) (boot : ∀ x : Str, x ≠ "__name__" → mb x = bootBuiltins x) (lim : s₁.heap.NoLimit) (gens : s₁.gens = #[])
    (obj : s₁.heap.get? a = some { cls := .type "list", data := .seq vs.toArray }) (nums : IntsAre vs ns) (short : ns.length ≤ sizeLine) (room : Room k callerA)
    (F : ∀ base : Heap, K.In base → base.Ns mainGlobals mg → Fn P w K mg base CX0 k fa fd [x] sp) (bind : ∀ (s : Shared) (u : Value), BindsTo s fd ⟨[u], []⟩ [(x, u)])
    (told : ∀ H : Hp, Only H → SqL K H a (ns.map V.int) → sp [.ref a] H (fun v _ => v = .bl true) fun _ _ _ => False) :
    codeAny (model P w) callerA (.call (.ref fa) ⟨[.ref a], []⟩) (fun r s' => r = .ok (.ret (.bool true)) ∧ OldK s₁.heap s'.heap ∧ s'.os = s₁.os ∧ AllBare s'.gens) s₁ := by
  have rv := vals_ints nums
  have lenV := nums.length
  -- over an abstract heap that knows of the script at most
  suffices core : ∀ H : Hp, Only H → SqL K H a (ns.map V.int) → HOk P w H s₁.heap → (∀ b, H b ≠ none → b = a) → (H a ≠ none → K.lookup a = none) →
      codeAny (model P w) callerA (.call (.ref fa) ⟨[.ref a], []⟩) (fun r s' => r = .ok (.ret (.bool true)) ∧ OldK s₁.heap s'.heap ∧ s'.os = s₁.os ∧ AllBare s'.gens) s₁ by
    cases hk : K.lookup a with
    | some o =>
      have z := KX a o hk
      rw [obj] at z
      obtain rfl := Option.some.inj z
      apply core (fun _ => none) (fun _ => Or.inl rfl)
      · exact Or.inr ⟨_, vs.toArray, _, hk, rfl, rfl, rfl, by rw [List.size_toArray, lenV]; exact short, by simpa using rv⟩
      · intro b u z
        exact absurd (show (none : Option HO) = some u from z) (by simp)
      · exact fun b z => absurd rfl z
      · exact fun z => absurd rfl z
    | none =>
      apply core (fun b => if b = a then some (.frz { cls := .type "list", data := .seq vs.toArray } (.lst (ns.map V.int))) else none)
      · intro b
        by_cases hb : b = a
        · exact Or.inr ⟨_, _, if_pos hb⟩
        · exact Or.inl (if_neg hb)
      · exact Or.inl (Or.inr ⟨{ cls := .type "list", data := .seq vs.toArray }, if_pos rfl⟩)
      · intro b u z
        by_cases hb : b = a
        · obtain rfl := Option.some.inj ((if_pos hb).symm.trans z)
          rw [hb]
          exact ⟨obj, by rw [List.length_map]; exact short, vs, _, rv, obj⟩
        · exact absurd ((if_neg hb).symm.trans z) (by simp)
      · intro b z
        by_cases hb : b = a
        · exact hb
        · exact absurd (if_neg hb) z
      · exact fun _ => hk
  intro H hO hS hok hA hK
  have dictFree : ∀ {b : Addr} {o : Obj} {es : Array DictEntry} {ep : Nat}, s₁.heap.get? b = some o → o.data = .dict es ep → H b = none := by
    intro b o es ep e d
    cases q : H b with
    | none => rfl
    | some u =>
      obtain rfl := hA b (by rw [q]; simp)
      rw [obj] at e
      obtain rfl := Option.some.inj e
      exact absurd (show Data.seq vs.toArray _ = Data.dict es ep from d) (by simp)
  have nsB : ∀ {b : Addr} {m : Str → Option Value}, s₁.heap.Ns b m → (hidT s₁.heap H).Ns b m := by
    rintro b m ⟨o, es, ep, e, d, r⟩
    exact ⟨o, es, ep, hidT_get e (dictFree e d), d, r⟩
  have inB : K.In (hidT s₁.heap H) := by
    intro b o e
    apply hidT_get (KX b o e)
    cases q : H b with
    | none => rfl
    | some u =>
      obtain rfl := hA b (by rw [q]; simp)
      rw [hK (by rw [q]; simp)] at e
      exact absurd e (by simp)
  have M : Mod K mg (hidT s₁.heap H) := by
    obtain ⟨mc, l1, l2⟩ := lim
    exact ⟨inB, nsB glob, ⟨mb, nsB bltn, boot⟩, ⟨mc, nsB l1, l2⟩⟩
  have none_in : ∀ b : Addr, ¬ b ∈ frs ([] : List Env) := fun b z => absurd (show b ∈ ([] : List Addr) from z) (by simp)
  have e0 : Env0 P w K mg (hidT s₁.heap H) callerA [] s₁ H := ⟨rfl, M, fun b o e => of_hidT e, Nat.le_of_eq (hidT_size _ _), trivial, fun b hb => absurd hb (none_in b), hok, .of_eq gens⟩
  apply codeAny_mono ((F _ inB (nsB glob)).run callerA [] s₁ H ⟨[.ref a], []⟩ [.ref a] [.ref a] _ _ rfl room e0 (bind s₁ (.ref a)) (.cons rfl .nil) (told H hO hS))
  intro r s' h
  match r, h with
  | .error e, h => exact h.elim
  | .ok .next, h => exact h.elim
  | .ok .brk, h => exact h.elim
  | .ok .cont, h => exact h.elim
  | .ok (.ret u), h =>
    obtain ⟨v, H', os, bare, un, hok', r', q⟩ := h
    obtain rfl : v = .bl true := q
    obtain rfl : u = Value.bool true := r'
    refine ⟨rfl, OldK.of_keep fun b o e => ?_, os, bare⟩
    cases q : H b with
    | none => exact un.keep b o e q (none_in b) (by simp)
    | some u =>
      rcases hO b with z | ⟨ob, xs, z⟩
      · rw [q] at z; cases z
      · obtain ⟨e1, _⟩ := hok b _ z
        obtain ⟨e2, _⟩ := hok' b _ (un.frzs b ob _ z)
        rw [e] at e1
        obtain rfl := Option.some.inj e1
        exact e2
theorem walkOf {l : PySem.W.OpenLaw} {n k : Nat} {q : Program} {loose : List Str} {XP : (Str → Option Value) → Heap → Prop} {YP : World → Heap → Prop} {d : DefRec} {K : Params → PySem.W.Frag} {sp : PySem.W.Frag → Sp} {x : Str}
    (hn : l.most = some n) (hn2 : n ≤ sizeLine) (hdf : d.params.defaults = []) (hr : Room k callerA) (hY : ∀ (w : World) (h : Heap), YP w h → (K w.params).In h)
    (F : ∀ (w : World) (mg : Str → Option Value) (fa : Addr) (h : Heap), (K w.params).In h → h.Ns mainGlobals mg → mg d.name = some (.ref fa) →
      ∃ fd : FuncData, (∀ (s : Shared) (u : Value), BindsTo s fd ⟨[u], []⟩ [(x, u)]) ∧ ∀ base : Heap, (K w.params).In base → base.Ns mainGlobals mg → Fn l.prog w (K w.params) mg base CX0 k fa fd [x] (sp (K w.params)))
    (told : ∀ (K : PySem.W.Frag) (H : Hp) (a : Addr) (ns : List Int), ns.length ≤ n → Only H → SqL K H a (ns.map V.int) → sp K [.ref a] H (fun v _ => v = .bl true) fun _ _ _ => False) :
    PySem.W.WalkO q loose XP YP l.row.toRowW d [] (fun f vs => PySem.call f vs) := by
  apply Att.attach_call hn hdf
  intro w s₀ s₁ mg mb fa o pm cd doc a vs ns G Y ho hd hcd hmg hobj hints hlen hg
  have KX := hY w _ Y
  obtain ⟨fd, hb, hF⟩ := F w mg fa _ KX G.T.g hmg
  exact lawCall KX G.T.g G.T.b G.T.builtins G.T.nolimit hg hobj hints (Nat.le_trans hlen hn2) hr hF hb fun H hO hS => told (K w.params) H a ns hlen hO hS
end G

namespace G
open PySem PySem.Spec PyProof.Rows L2 HT

/-! ### further operators -/
/-- a ** b of greater ints -/
def CPowW (i j : Int) : Prop := 2 ≤ i ∧ 1 ≤ j ∧ ((Builtin.Int.intBits i : Nat) : Int) * j ≤ 100000
section
variable {X : Cx}
theorem op_powW : OpR X (binaryOp .Pow) (rI CPowW fun i j => .int (i ^ j.toNat)) := opI fun i j t u s Q E hc q => by
  obtain ⟨h1, h2, h3⟩ := hc
  have n0 : ¬ (j == 0) = true := by simp; omega
  have n1 : ¬ (i == 0 || i == 1) = true := by simp; omega
  have n2 : ¬ (i == -1) = true := by simp; omega
  have n3 : ¬ Builtin.Int.intTooBig (((Builtin.Int.intBits i : Nat) : Int) * j) = true := by
    have e : bitsLine = 134217728 := by decide
    unfold Builtin.Int.intTooBig
    rw [e]
    intro z
    have := of_decide_eq_true z
    omega
  exact PySem.AutoIntOps.pow_4 (by omega) n0 n1 n2 n3 q
end

section
variable {prog : Program} {w : World} {A : Around} {E : Value → Shared → Prop} {s : Shared}
theorem fm_map {α β : Type} {f : α → Option β} {g : α → β} : ∀ (l : List α), (∀ m ∈ l, f m = some (g m)) → l.filterMap f = l.map g
  | [], _ => rfl
  | a :: r, h => by rw [List.filterMap_cons, h a (List.mem_cons_self ..), List.map_cons, fm_map r fun m hm => h m (List.mem_cons_of_mem _ hm)]
theorem back_run (xs : List Value) : ((List.range xs.length).filterMap fun (m : Nat) => xs.toArray[((xs.length : Int) - 1 + (m : Int) * (-1)).toNat]?) = xs.reverse := by
  apply List.ext_getElem?
  intro i
  have e : ((List.range xs.length).filterMap fun (m : Nat) => xs.toArray[((xs.length : Int) - 1 + (m : Int) * (-1)).toNat]?) = (List.range xs.length).map fun (m : Nat) => (xs[xs.length - 1 - m]?).getD .none := by
    apply fm_map
    intro m hm
    have hm' : m < xs.length := List.mem_range.mp hm
    have e1 : ((xs.length : Int) - 1 + (m : Int) * (-1)).toNat = xs.length - 1 - m := by omega
    rw [e1, List.getElem?_toArray, List.getElem?_eq_getElem (by omega)]
    rfl
  rw [e, List.getElem?_map]
  by_cases hi : i < xs.length
  · rw [List.getElem?_range hi, Option.map_some, List.getElem?_eq_getElem (by omega), List.getElem?_reverse hi, List.getElem?_eq_getElem (by omega)]
    rfl
  · rw [List.getElem?_eq_none (by simpa using hi), List.getElem?_eq_none (by rw [List.length_reverse]; omega)]
    rfl
theorem getItem_tuple_back {t sl : Addr} {its : List Value} {u : Tok} {Q : Value → Shared → Prop} (ht : IsTup s.heap t its.toArray) (hs : s.heap.IsSliceOf sl .none .none (.int (-1) u)) (hsz : its.length ≤ sizeLine)
    (h : Q (.ref s.heap.objs.size) { s with heap := s.heap.push { cls := .type "tuple", data := .seq its.reverse.toArray } }) : wpAny (model prog w) A (getItem (.ref t) (.ref sl)) Q E s := by
  have big : sizeOk (.seq its.reverse.toArray) := by
    show its.reverse.toArray.size ≤ sizeLine
    rw [List.size_toArray, List.length_reverse]; exact hsz
  obtain ⟨os, hos, hcs, hds⟩ := id hs
  have hTs : s.TypeIs (.ref sl) "slice" := ⟨os, hos, hcs⟩
  unfold getItem
  try with_reducible refine wpAny_holding ?_
  first | refine wpAny_bind (wpAny_pure ?_) | skip
  apply wpAny_bind
  apply wpAny_sequenceKey ht.typeIs (by decide)
  apply wpAny_bind
  apply wpAny_callSpecial?_slot (name := Str.ofString "__getitem__") ht.typeIs PyProof.Rows.slot_tuple_getitem
  refine wpAny_call_entry PyProof.Rows.slot_tuple_getitem ht.typeIs entry_tuple_getitem ?_ (args_tuple_getitem _ _)
  show wpAny _ _ (Builtin.Tuple.tupleItemsOf (.ref t) >>= _) _ _ s
  apply wpAny_bind
  apply tupleItemsOf_ ht
  apply wpAny_bind
  apply wpAny_typeOf hTs
  rw [if_pos (by decide)]
  apply wpAny_bind
  unfold Builtin.Slice.sliceApplied Builtin.Slice.sliceFields
  apply wpAny_bind
  refine wpAny_bind (wpAny_field hos hds (x := .none) rfl (wpAny_bind (wpAny_field hos hds (x := .none) rfl (wpAny_bind (wpAny_field hos hds (x := .int (-1) u) rfl (wpAny_pure ?_))))))
  apply wpAny_bind
  apply slicePart_int
  show wpAny _ _ (if ((-1 : Int) == 0) = true then _ else _) _ _ s
  rw [if_neg (by decide)]
  refine wpAny_bind (slicePart_none (wpAny_bind (slicePart_none (wpAny_bind (wpAny_pure ?_)))))
  show wpAny _ _ (match Builtin.Slice.sliceAdjust none none (-1) (its.toArray.size : Int) with | (lo, hi) => pure (lo, (-1 : Int), Builtin.Slice.slicePlaces lo hi (-1))) _ _ s
  have e1 : Builtin.Slice.sliceAdjust none none (-1) (its.toArray.size : Int) = ((its.length : Int) - 1, -1) := by
    unfold Builtin.Slice.sliceAdjust
    have h1 : ((-1 : Int) < 0) := by omega
    simp [h1]
  have e2 : Builtin.Slice.slicePlaces ((its.length : Int) - 1) (-1) (-1) = its.length := by
    unfold Builtin.Slice.slicePlaces
    simp
    split <;> omega
  rw [e1]
  show wpAny _ _ (pure ((its.length : Int) - 1, (-1 : Int), Builtin.Slice.slicePlaces ((its.length : Int) - 1) (-1) (-1))) _ _ s
  rw [e2]
  refine wpAny_pure ?_
  have no : ¬ ((((its.length : Int) - 1 == 0) && ((-1 : Int) == 1) && (its.length == its.toArray.size)) = true) := by
    have : ((-1 : Int) == 1) = false := by decide
    rw [this, Bool.and_false, Bool.false_and]
    exact Bool.false_ne_true
  show wpAny _ _ (if ((((its.length : Int) - 1 == 0) && ((-1 : Int) == 1) && (its.length == its.toArray.size)) = true) then _ else _) _ _ s
  rw [if_neg no, back_run]
  first
    | exact wpAny_bind (m := Builtin.Tuple.tupleExact _) (wpAny_newObj_type (wpAny_pure ⟨_, rfl, wpAny_pure h⟩) big)
    | exact wpAny_bind (m := Builtin.Tuple.tupleExact _) (wpAny_newObj_type (wpAny_bind (wpAny_pure (wpAny_pure ⟨_, rfl, wpAny_pure h⟩))) big)
    | exact wpAny_bind (wpAny_bind (m := Builtin.Tuple.tupleExact _) (wpAny_newObj_type (wpAny_pure (wpAny_pure ⟨_, rfl, wpAny_pure h⟩)) big))
    | exact wpAny_bind (wpAny_bind (m := Builtin.Tuple.tupleExact _) (wpAny_newObj_type (wpAny_pure ⟨_, rfl, wpAny_pure h⟩) big))
end
section
variable {X : Cx}
/-- t[::-1], t a tuple -/
def tRevT (te : TE) : TE := fun σ H Q => te σ H fun x H1 => ∃ a xs, x = .ref a ∧ H1 a = some (.tup xs) ∧ ∀ p, H1 p = none → Q (.ref p) (upd H1 p (.tup xs.reverse))
theorem pe_revT {e : Expr} {te : TE} {k : Nat} {p1 p2 p3 pos : Pos} (he : PE X e te) : PE X (.Subscript e (.Slice none none (some (.UnaryOp .USub (.Constant (.int 1) k p1) p2)) p3) pos) (tRevT te) := by
  constructor
  intro pins s σ H Q I h
  apply Subscript_
  apply thn (he.run pins s σ H _ I h)
  rintro v s1 ⟨x, H1, I1, r1, a, xs, rfl, hx, q⟩
  cases r1
  have part : PO X (some (.UnaryOp .USub (.Constant (.int 1) k p1) p2)) (tPart (tUn (rU fun i => .int (-i)) (tC (.int 1)))) := po_some (pe_un un_neg pe_int)
  apply wpAny_Slice
  apply thn (po_none.run pins s1 σ H1 (fun o H2 => o = none ∧ H2 = H1) I1 ⟨rfl, rfl⟩)
  rintro vl s2 ⟨l, H2, I2, pl, rfl, rfl⟩
  apply thn (po_none.run pins s2 σ H2 (fun o H3 => o = none ∧ H3 = H2) I2 ⟨rfl, rfl⟩)
  rintro vu s3 ⟨u, H3, I3, pu, rfl, rfl⟩
  apply thn (part.run pins s3 σ H3 (fun o H4 => o = some (-1) ∧ H4 = H3) I3 ⟨1, rfl, -1, rfl, rfl, rfl⟩)
  rintro vs s4 ⟨o, H4, I4, ps, rfl, rfl⟩
  cases pl
  cases pu
  cases ps with
  | int _ tk =>
  have I5 : Inv X pins σ H4 { s4 with heap := s4.heap.push { cls := .type "slice", data := .fields #[.none, .none, .int (-1) tk] } } := I4.kept (t' := s4.toks) fun b ob z => Heap.get?_push_of_some _ z
  obtain ⟨hz, its, r, ht⟩ := I5.hok a _ hx
  have hl := r.length
  show wpAny (model X.prog X.w) X.A (subscriptTail e (.Slice none none (some (.UnaryOp .USub (.Constant (.int 1) k p1) p2)) p3) (.ref a) (.ref s4.heap.objs.size)) (EP X pins σ Q) X.xe { s4 with heap := s4.heap.push { cls := .type "slice", data := .fields #[.none, .none, .int (-1) tk] } }
  apply tail_any (ops := [.ref a, .ref s4.heap.objs.size]) (IsTup.typeIs ht) PyProof.Rows.slot_tuple_getitem.lookup _ (by with_unfolding_all rfl)
  apply getItem_tuple_back ht (Heap.IsSliceOf.new _ .none .none (.int (-1) tk)) (by omega)
  refine ⟨.ref _, _, I5.laid (t' := s4.toks) (o := .tup xs.reverse) (fun b ob z => Heap.get?_push_of_some _ z) (Nat.le_refl _) ?_, rfl, q _ (I5.hok.fresh (Nat.le_refl _))⟩
  exact ⟨by rw [List.length_reverse]; exact hz, _, r.reverse, ⟨_, Heap.get?_push_size _ rfl, rfl, _, rfl⟩⟩
/-- a list display, whose place is not the table of modules -/
def tLstS (t : TA) : TE := fun σ H Q => t σ H fun xs H1 => xs.length ≤ sizeLine ∧ ∀ p, H1 p = none → p ≠ sysModules → Q (.ref p) (upd H1 p (.lst xs))
theorem pe_lstS {es : List Expr} {t : TA} {pos : Pos} (h : PA X es t) : PE X (.List es pos) (tLstS t) := by
  constructor
  intro pins s σ H Q I hq
  apply wpAny_List_spliced
  apply thn (h.run pos pins s σ H _ I hq)
  rintro us s1 ⟨xs, H1, I1, r, z, q⟩
  refine ⟨by rw [← r.length]; exact z, ?_⟩
  refine ⟨.ref s1.heap.objs.size, upd H1 s1.heap.objs.size (.lst xs), I1.laid (t' := s1.toks) (fun b u e => Heap.get?_push_of_some _ e) (Nat.le_refl _) ?_, rfl, q _ (I1.hok.fresh (Nat.le_refl _)) (Nat.ne_of_gt I1.big)⟩
  exact ⟨z, us, 0, r, Heap.get?_push_size _ rfl⟩
end
end G

namespace G
open PySem PySem.Spec PyProof.Rows L2

/-! ### data apart from some addresses -/
open Classical in
noncomputable def mask (N : Addr → Prop) (H : Hp) : Hp := fun b => if N b then none else H b
theorem mask_out {N : Addr → Prop} {H : Hp} {b : Addr} (h : ¬ N b) : mask N H b = H b := by unfold mask; rw [if_neg h]
theorem mask_in {N : Addr → Prop} {H : Hp} {b : Addr} (h : N b) : mask N H b = none := by unfold mask; rw [if_pos h]
theorem mask_some {N : Addr → Prop} {H : Hp} {b : Addr} {o : HO} (h : mask N H b = some o) : ¬ N b ∧ H b = some o := by
  by_cases e : N b
  · rw [mask_in e] at h; cases h
  · rw [mask_out e] at h; exact ⟨e, h⟩
theorem mask_le (N : Addr → Prop) (H : Hp) : Same (mask N H) H := fun b o h => (mask_some h).2
theorem mask_mono {N : Addr → Prop} {H H' : Hp} (S : Same H H') : Same (mask N H) (mask N H') := fun b o h => by
  rw [mask_out (mask_some h).1]; exact S b o (mask_some h).2
theorem mask_less {N M : Addr → Prop} {H : Hp} (h : ∀ b, M b → N b) : Same (mask N H) (mask M H) := fun b o e => by
  rw [mask_out fun z => (mask_some e).1 (h b z)]; exact (mask_some e).2
theorem same_new {H : Hp} {q : Addr} {o : HO} (h : H q = none) : Same H (upd H q o) := fun b u e => by rw [upd_ne (ne_of_none e h)]; exact e

def Is (N : Addr → Prop) (H : Hp) (G : PyData → Prop) (v : V) : Prop := ∃ d, Da (mask N H) v d ∧ G d
theorem Is.same {N : Addr → Prop} {H H' : Hp} {G : PyData → Prop} {v : V} (S : Same H H') (h : Is N H G v) : Is N H' G v := let ⟨d, a, g⟩ := h; ⟨d, a.same (mask_mono S), g⟩
theorem Is.less {N M : Addr → Prop} {H : Hp} {G : PyData → Prop} {v : V} (h : ∀ b, M b → N b) (x : Is N H G v) : Is M H G v := let ⟨d, a, g⟩ := x; ⟨d, a.same (mask_less h), g⟩
theorem Is.imp {N : Addr → Prop} {H : Hp} {G G' : PyData → Prop} {v : V} (h : ∀ d, G d → G' d) (x : Is N H G v) : Is N H G' v := let ⟨d, a, g⟩ := x; ⟨d, a, h d g⟩
theorem is_int {N : Addr → Prop} {H : Hp} {G : PyData → Prop} {i : Int} (g : G (.int i)) : Is N H G (.int i) := ⟨_, .int i, g⟩
theorem is_str {N : Addr → Prop} {H : Hp} {G : PyData → Prop} {x : Str} (g : G (.str x)) : Is N H G (.str x) := ⟨_, .str x, g⟩
theorem is_bl {N : Addr → Prop} {H : Hp} {G : PyData → Prop} {b : Bool} (g : G (.bool b)) : Is N H G (.bl b) := ⟨_, .bl b, g⟩
theorem is_non {N : Addr → Prop} {H : Hp} {G : PyData → Prop} (g : G .none) : Is N H G .non := ⟨_, .non, g⟩
theorem daAll_of {N : Addr → Prop} {H : Hp} {G : PyData → Prop} : ∀ {xs : List V}, (∀ x ∈ xs, Is N H G x) → ∃ ds, DaAll (mask N H) xs ds ∧ ds.length = xs.length ∧ ∀ d ∈ ds, G d
  | [], _ => ⟨[], .nil, rfl, fun _ h => nomatch h⟩
  | x :: xs, h => by
    obtain ⟨d, a, g⟩ := h x (List.mem_cons_self ..)
    obtain ⟨ds, b, l, gs⟩ := daAll_of (xs := xs) fun y hy => h y (List.mem_cons_of_mem _ hy)
    refine ⟨d :: ds, .cons a b, by rw [List.length_cons, List.length_cons, l], fun y hy => ?_⟩
    rcases List.mem_cons.mp hy with e | hy
    · rw [e]; exact g
    · exact gs y hy
theorem is_of_daAll {N : Addr → Prop} {H : Hp} {G : PyData → Prop} : ∀ {xs : List V} {ds : List PyData}, DaAll (mask N H) xs ds → (∀ d ∈ ds, G d) → ∀ x ∈ xs, Is N H G x
  | _, _, .nil, _, _, h => nomatch h
  | _, _, .cons (d := d) a b, g, x, h => by
    rcases List.mem_cons.mp h with e | h
    · rw [e]; exact ⟨d, a, g d (List.mem_cons_self ..)⟩
    · exact is_of_daAll b (fun y hy => g y (List.mem_cons_of_mem _ hy)) x h
theorem is_tup {N : Addr → Prop} {H : Hp} {G G' : PyData → Prop} {a : Addr} {xs : List V} (hN : ¬ N a) (ha : H a = some (.tup xs)) (hx : ∀ x ∈ xs, Is N H G' x) (g : ∀ ds : List PyData, ds.length = xs.length → (∀ d ∈ ds, G' d) → G (.tuple ds)) : Is N H G (.ref a) := by
  obtain ⟨ds, b, l, gs⟩ := daAll_of hx
  exact ⟨_, .tup (by rw [mask_out hN]; exact ha) b, g ds l gs⟩
theorem is_lst {N : Addr → Prop} {H : Hp} {G G' : PyData → Prop} {a : Addr} {xs : List V} (hN : ¬ N a) (ha : H a = some (.lst xs)) (hs : a ≠ sysModules) (hx : ∀ x ∈ xs, Is N H G' x) (g : ∀ ds : List PyData, ds.length = xs.length → (∀ d ∈ ds, G' d) → G (.list ds)) : Is N H G (.ref a) := by
  obtain ⟨ds, b, l, gs⟩ := daAll_of hx
  exact ⟨_, .lst (by rw [mask_out hN]; exact ha) hs b, g ds l gs⟩

/-! ### what evaluates to good data, leaving all that is tracked as it is -/
def EvG (N : Addr → Prop) (te : TE) (σ : L2.St) (H : Hp) (G : PyData → Prop) : Prop := ∀ H1, Same H H1 → ∀ Q : VK, (∀ v H2, Same H1 H2 → Is N H2 G v → Q v H2) → te σ H1 Q
def EvGA (N : Addr → Prop) (ta : TA) (σ : L2.St) (H : Hp) (G : PyData → Prop) (m : Nat) : Prop :=
  ∀ H1, Same H H1 → ∀ Q : List V → Hp → Prop, (∀ vs H2, Same H1 H2 → vs.length = m → (∀ x ∈ vs, Is N H2 G x) → Q vs H2) → ta σ H1 Q
section
variable {N : Addr → Prop} {σ : L2.St} {H : Hp} {G G' : PyData → Prop} {te : TE} {ta : TA} {m : Nat}
/-- only what is tracked is set apart -/
def Tr (N : Addr → Prop) (H : Hp) : Prop := ∀ b, N b → H b ≠ none
theorem Tr.same {H' : Hp} (t : Tr N H) (S : Same H H') : Tr N H' := fun b h => by
  cases e : H b with
  | none => exact absurd e (t b h)
  | some o => rw [S b o e]; simp
theorem Tr.new {q : Addr} (t : Tr N H) (h : H q = none) : ¬ N q := fun z => t q z h
theorem EvG.mono {H' : Hp} (S : Same H H') (h : EvG N te σ H G) : EvG N te σ H' G := fun H1 S1 Q q => h H1 (S.trans S1) Q q
theorem EvGA.mono {H' : Hp} (S : Same H H') (h : EvGA N ta σ H G m) : EvGA N ta σ H' G m := fun H1 S1 Q q => h H1 (S.trans S1) Q q
theorem evg_is {v : V} (h : ∀ H', Is N H' G v) : EvG N (tC v) σ H G := fun H1 _ Q q => q v H1 (Same.refl _) (h H1)
theorem evg_int {i : Int} (g : G (.int i)) : EvG N (tC (.int i)) σ H G := evg_is fun _ => is_int g
theorem evg_str {x : Str} (g : G (.str x)) : EvG N (tC (.str x)) σ H G := evg_is fun _ => is_str g
theorem evg_bl {b : Bool} (g : G (.bool b)) : EvG N (tC (.bl b)) σ H G := evg_is fun _ => is_bl g
theorem evg_non (g : G .none) : EvG N (tC .non) σ H G := evg_is fun _ => is_non g
theorem evg_neg {i : Int} (g : G (.int (-i))) : EvG N (tUn (rU fun i => .int (-i)) (tC (.int i))) σ H G := fun H1 _ Q q => ⟨i, rfl, q _ H1 (Same.refl _) (is_int g)⟩
theorem evg_pow {i j : Int} (c : CPowW i j) (g : G (.int (i ^ j.toNat))) : EvG N (tOp (rI CPowW fun i j => .int (i ^ j.toNat)) (tC (.int i)) (tC (.int j))) σ H G :=
  fun H1 _ Q q => ⟨i, j, rfl, rfl, c, q _ H1 (Same.refl _) (is_int g)⟩
theorem evg_var {i : Nat} {v : V} (h : σ[i]? = some (some v)) (x : Is N H G v) : EvG N (tVar i) σ H G := fun H1 S Q q => ⟨v, h, q v H1 (Same.refl _) (x.same S)⟩
theorem eva_nil : EvGA N tNil σ H G 0 := fun H1 _ Q q => q [] H1 (Same.refl _) rfl fun _ h => nomatch h
theorem eva_cons {tr : TA} (h : EvG N te σ H G) (hr : EvGA N tr σ H G m) : EvGA N (tCons te tr) σ H G (m + 1) := fun H1 S Q q =>
  h H1 S _ fun v H2 S2 x => hr H2 (S.trans S2) _ fun vs H3 S3 l xs => q (v :: vs) H3 (S2.trans S3) (by rw [List.length_cons, l]) fun y hy => by
    rcases List.mem_cons.mp hy with e | hy
    · rw [e]; exact x.same S3
    · exact xs y hy
theorem evg_tup (t : Tr N H) (h : EvGA N ta σ H G' m) (hm : m ≤ 1000) (g : ∀ ds : List PyData, ds.length = m → (∀ d ∈ ds, G' d) → G (.tuple ds)) : EvG N (tTup ta) σ H G := fun H1 S Q q =>
  h H1 S _ fun vs H2 S2 l xs => ⟨by rw [l, sizeLine_eq]; omega, fun p hp => q (.ref p) _ (S2.trans (same_new hp))
    (is_tup (((t.same S).same S2).new hp) upd_same (fun x hx => (xs x hx).same (same_new hp)) fun ds e => g ds (e.trans l))⟩
theorem evg_lst (t : Tr N H) (h : EvGA N ta σ H G' m) (hm : m ≤ 1000) (g : ∀ ds : List PyData, ds.length = m → (∀ d ∈ ds, G' d) → G (.list ds)) : EvG N (tLstS ta) σ H G := fun H1 S Q q =>
  h H1 S _ fun vs H2 S2 l xs => ⟨by rw [l, sizeLine_eq]; omega, fun p hp hs => q (.ref p) _ (S2.trans (same_new hp))
    (is_lst (((t.same S).same S2).new hp) upd_same hs (fun x hx => (xs x hx).same (same_new hp)) fun ds e => g ds (e.trans l))⟩
theorem evg_dnew (t : Tr N H) (g : G (.dict [])) : EvG N tDNewK σ H G := fun H1 S Q q p hp => q (.ref p) _ (same_new hp)
  ⟨_, .dct (kvs := []) (ds := []) (by rw [mask_out ((t.same S).new hp)]; exact upd_same) .nil, g⟩
/-- {'k': e} -/
theorem evg_dict1 {x : Str} (t : Tr N H) (h : ∀ q H1, Same H H1 → EvG (fun b => N b ∨ b = q) te σ H1 G') (g : ∀ d, G' d → G (.dict [(.str x, d)])) : EvG N (tDisp [(tC (.str x), te)]) σ H G := fun H1 S Q q p hp => by
  refine h p _ (S.trans (same_new hp)) _ (Same.refl _) _ fun v H2 S2 ⟨d, a, gd⟩ => ?_
  have e2 : H2 p = some (.dK []) := S2 _ _ upd_same
  refine ⟨e2, [(Sum.inr x, v)], rfl, by show 1 ≤ 15; decide, ?_⟩
  have keep : Same H1 (upd H2 p (.dK (mergeK [] [(Sum.inr x, v)]))) := fun b o e => by
    rw [upd_ne (ne_of_none e hp)]
    exact S2 b o (by rw [upd_ne (ne_of_none e hp)]; exact e)
  refine q (.ref p) _ keep ⟨_, .dct (kvs := [(Sum.inr x, v)]) (ds := [d]) (by rw [mask_out ((t.same S).new hp)]; exact upd_same) (.cons (a.same ?_) .nil), g d gd⟩
  intro b o e
  obtain ⟨nb, eb⟩ := mask_some e
  have n1 : ¬ N b := fun z => nb (Or.inl z)
  have n2 : b ≠ p := fun z => nb (Or.inr z)
  rw [mask_out n1, upd_ne n2]
  exact eb
/-- a new list of good data, where it is -/
theorem eva_list (t : Tr N H) (h : EvGA N ta σ H G m) (hm : m ≤ 1000) {Q : VK} (q : ∀ l xs H2, Same H H2 → H l = none → H2 l = some (.lst xs) → l ≠ sysModules → xs.length = m → (∀ x ∈ xs, Is N H2 G x) → Q (.ref l) H2) : tLstS ta σ H Q :=
  h H (Same.refl _) _ fun vs H2 S2 l xs => ⟨by rw [l, sizeLine_eq]; omega, fun p hp hs => q p vs _ (S2.trans (same_new hp)) (Same.free S2 hp) upd_same hs l fun x hx => (xs x hx).same (same_new hp)⟩
end
end G

namespace G
open PySem PySem.Spec PyProof.Rows L2
section
variable {X : Cx}
/-- list(t), t a tuple: the new list is not the table of modules -/
def rListT : List V → Hp → VK → Prop := fun xs H Q => ∃ p ys, xs = [.ref p] ∧ H p = some (.tup ys) ∧ ∀ l, H l = none → l ≠ sysModules → Q (.ref l) (upd H l (.lst ys))
theorem call_listT : CallR X (.type "list") rListT := by
  intro pins s σ H xs us Q I r h
  obtain ⟨p, ys, rfl, hp, q⟩ := h
  obtain ⟨u, rfl, rx⟩ := vals1 r
  cases rx
  obtain ⟨its, r', ⟨o, ho, hc, n, hd⟩, hz⟩ := I.tuple (SqT.of hp)
  have hlen := r'.length
  refine call_list_seq p (.inr rfl) ho hc hd (fun h' c' kp e => ?_) (by simp only [List.size_toArray] <;> omega)
  refine ⟨.ref s.heap.objs.size, _, I.laid (t' := s.toks) kp (Nat.le_refl _) (o := .lst ys) ⟨hz, its, c', r', e⟩, rfl, q _ (I.hok.fresh (Nat.le_refl _)) (Nat.ne_of_gt I.big)⟩
end

section
variable {K : PySem.W.Frag} {N : Addr → Prop} {σ : L2.St} {H : Hp} {G G' : PyData → Prop} {te tf : TE} {tl th : TO} {m : Nat}
/-! ### tuples: parts, sums, the other way about -/
theorem cutV_mem {xs : List V} {lo hi : Option Int} {x : V} (h : x ∈ cutV xs lo hi) : x ∈ xs := List.mem_of_mem_drop (List.mem_of_mem_take h)
theorem slA_any {a : Addr} {xs : List V} {lo hi : Option Int} {Q : VK} (ha : H a = some (.tup xs)) (q : ∀ b ys H1, Same H H1 → H1 b = some (.tup ys) → (b = a ∨ H b = none) → (∀ y ∈ ys, y ∈ xs) → ys.length ≤ xs.length → Q (.ref b) H1) : rSlA K (.ref a) lo hi H Q :=
  ⟨a, xs, rfl, SqT.of ha, fun _ => q a xs H (Same.refl _) ha (.inl rfl) (fun _ h => h) (Nat.le_refl _), fun _ p hp => q p _ _ (same_new hp) upd_same (.inr hp) (fun _ h => cutV_mem h) (cutV_length _ _ _)⟩
theorem catA_any {a b : Addr} {xs ys : List V} {Q : VK} (ha : H a = some (.tup xs)) (hb : H b = some (.tup ys)) (hz : xs.length + ys.length ≤ 100000)
    (q : ∀ c H1, Same H H1 → H1 c = some (.tup (xs ++ ys)) → (c = a ∨ c = b ∨ H c = none) → Q (.ref c) H1) : rCatA K (.ref a) (.ref b) H Q := by
  refine ⟨a, b, xs, ys, rfl, rfl, SqT.of ha, SqT.of hb, by rw [sizeLine_eq]; omega, fun e => ?_, fun e1 e2 => ?_, fun e1 e2 p hp => ?_⟩
  · exact q b H (Same.refl _) (by rw [e]; exact hb) (.inr (.inl rfl))
  · exact q a H (Same.refl _) (by rw [e2, List.append_nil]; exact ha) (.inl rfl)
  · exact q p _ (same_new hp) upd_same (.inr (.inr hp))
/-- a tuple of good data, outside of N -/
def IsT (N : Addr → Prop) (H : Hp) (G : PyData → Prop) (m : Nat) (v : V) : Prop := ∃ a xs, v = .ref a ∧ ¬ N a ∧ H a = some (.tup xs) ∧ xs.length ≤ m ∧ ∀ x ∈ xs, Is N H G x
theorem IsT.same {H' : Hp} {v : V} (S : Same H H') (h : IsT N H G m v) : IsT N H' G m v := by
  obtain ⟨a, xs, rfl, n, e, l, x⟩ := h
  exact ⟨a, xs, rfl, n, S _ _ e, l, fun y hy => (x y hy).same S⟩
theorem IsT.is {v : V} (h : IsT N H G' m v) (g : ∀ ds : List PyData, ds.length ≤ m → (∀ d ∈ ds, G' d) → G (.tuple ds)) : Is N H G v := by
  obtain ⟨a, xs, rfl, n, e, l, x⟩ := h
  exact is_tup n e x fun ds e2 => g ds (by omega)
def EvT (N : Addr → Prop) (te : TE) (σ : L2.St) (H : Hp) (G : PyData → Prop) (m : Nat) : Prop := ∀ H1, Same H H1 → ∀ Q : VK, (∀ v H2, Same H1 H2 → IsT N H2 G m v → Q v H2) → te σ H1 Q
/-- an optional part of a slice that is an int -/
def EvO (to : TO) (σ : L2.St) : Prop := ∀ (H1 : Hp) (Q : Option Int → Hp → Prop), (∀ o, Q o H1) → to σ H1 Q
theorem evo_none : EvO tNoPart σ := fun H1 Q q => q _
theorem evo_int {i : Int} : EvO (tPart (tC (.int i))) σ := fun H1 Q q => ⟨i, rfl, q _⟩
theorem evo_neg {i : Int} : EvO (tPart (tUn (rU fun i => .int (-i)) (tC (.int i)))) σ := fun H1 Q q => ⟨i, rfl, _, rfl, q _⟩
theorem evo_var {i : Nat} {j : Int} (h : σ[i]? = some (some (.int j))) : EvO (tPart (tVar i)) σ := fun H1 Q q => ⟨_, h, _, rfl, q _⟩
theorem evo_add {i : Nat} {j k : Int} (h : σ[i]? = some (some (.int j))) : EvO (tPart (tOp (rI0 fun i j => .int (i + j)) (tVar i) (tC (.int k)))) σ := fun H1 Q q => ⟨_, h, _, _, rfl, rfl, _, rfl, q _⟩
theorem EvT.g (h : EvT N te σ H G' m) (g : ∀ ds : List PyData, ds.length ≤ m → (∀ d ∈ ds, G' d) → G (.tuple ds)) : EvG N te σ H G := fun H1 S Q q => h H1 S Q fun v H2 S2 x => q v H2 S2 (x.is g)
theorem evt_var {i : Nat} {v : V} (h : σ[i]? = some (some v)) (x : IsT N H G m v) : EvT N (tVar i) σ H G m := fun H1 S Q q => ⟨v, h, q v H1 (Same.refl _) (x.same S)⟩
theorem evt_tup {ta : TA} (t : Tr N H) (h : EvGA N ta σ H G m) (hm : m ≤ 1000) : EvT N (tTup ta) σ H G m := fun H1 S Q q =>
  h H1 S _ fun vs H2 S2 l xs => ⟨by rw [l, sizeLine_eq]; omega, fun p hp => q (.ref p) _ (S2.trans (same_new hp)) ⟨p, vs, rfl, ((t.same S).same S2).new hp, upd_same, Nat.le_of_eq l, fun x hx => (xs x hx).same (same_new hp)⟩⟩
theorem evt_sl (t : Tr N H) (h : EvT N te σ H G m) (hl : EvO tl σ) (hh : EvO th σ) : EvT N (tSl (rSlA K) te tl th) σ H G m := fun H1 S Q q =>
  h H1 S _ fun v H2 S2 ⟨a, xs, ev, n, e, l, x⟩ => by
    subst ev
    refine hl H2 _ fun lo => hh H2 _ fun hi => slA_any e fun b ys H3 S3 e3 w sub l3 => ?_
    refine q _ H3 (S2.trans S3) ⟨b, ys, rfl, ?_, e3, by omega, fun y hy => (x y (sub y hy)).same S3⟩
    rcases w with w | w
    · rw [w]; exact n
    · exact ((t.same S).same S2).new w
theorem evt_cat {k : Nat} (t : Tr N H) (h : EvT N te σ H G m) (h2 : EvT N tf σ H G k) (hz : m + k ≤ 1000) : EvT N (tOp (rCatA K) te tf) σ H G (m + k) := fun H1 S Q q =>
  h H1 S _ fun v H2 S2 ⟨a, xs, ev, n, e, l, x⟩ => by
    subst ev
    refine h2 H2 (S.trans S2) _ fun w H3 S3 ⟨b, ys, ew, n3, e3, l3, x3⟩ => ?_
    subst ew
    refine catA_any (S3 _ _ e) e3 (by omega) fun c H4 S4 e4 wh => q _ H4 ((S2.trans S3).trans S4) ⟨c, _, rfl, ?_, e4, by rw [List.length_append]; omega, fun y hy => ?_⟩
    · rcases wh with z | z | z
      · rw [z]; exact n
      · rw [z]; exact n3
      · exact (((t.same S).same S2).same S3).new z
    · rcases List.mem_append.mp hy with z | z
      · exact ((x y z).same S3).same S4
      · exact (x3 y z).same S4
theorem evt_rev (t : Tr N H) (h : EvT N te σ H G m) : EvT N (tRevT te) σ H G m := fun H1 S Q q =>
  h H1 S _ fun v H2 S2 ⟨a, xs, ev, n, e, l, x⟩ => ⟨a, xs, ev, e, fun p hp => q _ _ (S2.trans (same_new hp)) ⟨p, _, rfl, ((t.same S).same S2).new hp, upd_same, by rw [List.length_reverse]; exact l, fun y hy => (x y (List.mem_reverse.mp hy)).same (same_new hp)⟩⟩
/-- list(t) -/
theorem evg_listT (t : Tr N H) (h : EvT N te σ H G' m) (g : ∀ ds : List PyData, ds.length ≤ m → (∀ d ∈ ds, G' d) → G (.list ds)) : EvG N (tCB rListT (tCons te tNil)) σ H G := fun H1 S Q q =>
  h H1 S _ fun v H2 S2 ⟨a, xs, ev, n, e, l, x⟩ => ⟨a, xs, by rw [ev], e, fun p hp hs => q _ _ (S2.trans (same_new hp))
    (is_lst (((t.same S).same S2).new hp) upd_same hs (fun y hy => (x y hy).same (same_new hp)) fun ds e2 => g ds (by omega))⟩
/-- a value by itself: what a reading leads to, for sure, the heap as it is -/
theorem evg_to {v : V} (h : ∀ (H1 : Hp) (Q : VK), Q v H1 → te σ H1 Q) (x : ∀ H', Is N H' G v) : EvG N te σ H G := fun H1 _ Q q => h H1 Q (q v H1 (Same.refl _) (x H1))
end
/-! data without dicts, for comparisons -/
mutual
theorem Da.dp {K : PySem.W.Frag} {H : Hp} : ∀ {v : V} {d : PyData}, Da H v d → d.canLay0 = true → Dp K H v d
  | _, _, .non, _ => .non
  | _, _, .bl b, _ => .bl b
  | _, _, .int i, _ => .int i
  | _, _, .str x, _ => .str x
  | _, _, .lst e _ t, h => .lst (SqL.of e) (DaAll.dp t (by simpa [PyData.canLay0] using h))
  | _, _, .tup e t, h => .tup (SqT.of e) (DaAll.dp t (by simpa [PyData.canLay0] using h))
  | _, _, .dct e t, h => by simp [PyData.canLay0] at h
theorem DaAll.dp {K : PySem.W.Frag} {H : Hp} : ∀ {vs : List V} {ds : List PyData}, DaAll H vs ds → PyData.canLayAll0 ds = true → DpAll K H vs ds
  | _, _, .nil, _ => .nil
  | _, _, .cons h t, e => by
    simp only [PyData.canLayAll0, Bool.and_eq_true] at e
    exact .cons (Da.dp h e.1) (DaAll.dp t e.2)
end
end G
namespace G
open PySem PySem.Spec PyProof.Rows L2
theorem s_set {te : TE} {i : Nat} {u : TS} {D : Ends} {σ : L2.St} {H : Hp} (h : te σ H fun x H1 => u D (σ.set i (some x)) H1) : tSeq (tAsg te (gName i)) u D σ H := h
theorem s_ret {te : TE} {D : Ends} {σ : L2.St} {H : Hp} (h : te σ H D.rt) : tRet te D σ H := h
theorem s_seq {t u : TS} {D : Ends} {σ : L2.St} {H : Hp} (h : t { D with nx := u D } σ H) : tSeq t u D σ H := h
theorem s_if {c : TT} {t u : TS} {D : Ends} {σ : L2.St} {H : Hp} (h : c σ H fun b H1 => if b = true then t D σ H1 else u D σ H1) : tIfS c t u D σ H := h
end G
namespace G
open PySem PySem.Spec PyProof.Rows L2
theorem t_op {r : R2} {ta tb : TE} {σ : L2.St} {H : Hp} {Q : VK} (h : ta σ H fun x H1 => tb σ H1 fun y H2 => r x y H2 Q) : tOp r ta tb σ H Q := h
theorem t_cons {ta : TE} {tr : TA} {σ : L2.St} {H : Hp} {Q : List V → Hp → Prop} (h : ta σ H fun x H1 => tr σ H1 fun xs H2 => Q (x :: xs) H2) : tCons ta tr σ H Q := h
end G

namespace G
open PySem PySem.Spec PyProof.Rows L2
/-! ### lists that are put together, with a word about their items -/
def EvP (ta : TA) (σ : L2.St) (H : Hp) (P : Hp → List V → Prop) (m : Nat) : Prop := ∀ H1, Same H H1 → ∀ Q : List V → Hp → Prop, (∀ vs H2, Same H1 H2 → vs.length = m → P H2 vs → Q vs H2) → ta σ H1 Q
def Stays (P : Hp → List V → Prop) : Prop := ∀ H H' vs, Same H H' → P H vs → P H' vs
section
variable {σ : L2.St} {H : Hp} {P P0 P1 : Hp → List V → Prop} {te : TE} {ta : TA} {m : Nat} {Q : VK}
theorem lstP (h : EvP ta σ H P m) (hm : m ≤ 1000) (st : Stays P) (k : ∀ p vs H', Same H H' → H p = none → H' p = some (.lst vs) → vs.length = m → P H' vs → Q (.ref p) H') : tLstS ta σ H Q :=
  h H (Same.refl _) _ fun vs H2 S2 l p => ⟨by rw [l, sizeLine_eq]; omega, fun a ha hs => k a vs _ (S2.trans (same_new ha)) (Same.free S2 ha) upd_same l (st _ _ _ (same_new ha) p)⟩
theorem catP {i : Nat} {l : Addr} {xs : List V} {n : Nat} (hσ : σ[i]? = some (some (.ref l))) (hl : H l = some (.lst xs)) (p0 : P0 H xs) (st0 : Stays P0) (hn : xs.length = n) (h : EvP ta σ H P1 m) (st1 : Stays P1) (hm : n + m ≤ 1000)
    (both : ∀ H xs ys, P0 H xs → P1 H ys → P H (xs ++ ys)) (st : Stays P) (k : ∀ p vs H', Same H H' → H p = none → H' p = some (.lst vs) → vs.length = n + m → P H' vs → Q (.ref p) H') : tOp rCat (tVar i) (tLstS ta) σ H Q := by
  refine ⟨_, hσ, lstP h (by omega) st1 fun p ys H1 S1 np hp ly py => ?_⟩
  refine ⟨_, _, _, _, rfl, rfl, S1 _ _ hl, hp, by rw [hn, ly, sizeLine_eq]; omega, fun q nq => ?_⟩
  exact k q _ _ (S1.trans (same_new nq)) (Same.free S1 nq) upd_same (by rw [List.length_append, hn, ly]) (st _ _ _ (same_new nq) (both _ _ _ (st0 _ _ _ S1 p0) py))
/-- truth values -/
def Bls (bs : List Bool) : Hp → List V → Prop := fun _ vs => vs = bs.map V.bl
theorem bls_stays (bs : List Bool) : Stays (Bls bs) := fun _ _ _ _ h => h
theorem evb_nil : EvP tNil σ H (Bls []) 0 := fun H1 _ Q q => q [] H1 (Same.refl _) rfl rfl
theorem evb_is {K : PySem.W.Frag} {e C Ci : Addr} {v : V} {b : Bool} {bs : List Bool} {i : Nat} (hσ : σ[i]? = some (some (.ref e))) (T : EC K C) (he : ErrAt H e C v) (hk : PySem.W.kitOne K (.ref C) (.ref Ci) = some b) (hr : EvP ta σ H (Bls bs) m) :
    EvP (tCons (tCB (fun xs H Q => ∃ (a C : Addr) (v c : V) (u : Value) (b : Bool), xs = [.ref a, c] ∧ ClsV c u ∧ EC K C ∧ ErrAt H a C v ∧ PySem.W.kitOne K (.ref C) u = some b ∧ Q (.bl b) H) (tCons (tVar i) (tCons (tC (.ref Ci)) tNil))) ta) σ H (Bls (b :: bs)) (m + 1) :=
  fun H1 S Q q => ⟨_, hσ, e, C, v, _, _, b, rfl, .own Ci, T, he.same S, hk, hr H1 S _ fun vs H2 S2 l p => q _ H2 S2 (by rw [List.length_cons, l]) (by rw [p]; rfl)⟩
theorem bls_app {bs cs : List Bool} : ∀ (H : Hp) (xs ys : List V), Bls bs H xs → Bls cs H ys → Bls (bs ++ cs) H (xs ++ ys) := fun _ xs ys h1 h2 => by rw [h1, h2]; exact (List.map_append).symm
/-- errors that keep v, one of each class -/
def Ers (v : V) (Cs : List Addr) : Hp → List V → Prop := fun H vs => Paired (fun x C => ∃ e, x = .ref e ∧ ErrAt H e C v) vs Cs
theorem ers_stays (v : V) (Cs : List Addr) : Stays (Ers v Cs) := fun _ _ _ S h => Paired.mapP h fun _ _ ⟨e, x, y⟩ => ⟨e, x, y.same S⟩
theorem eve_nil {v : V} : EvP tNil σ H (Ers v []) 0 := fun H1 _ Q q => q [] H1 (Same.refl _) rfl .nil
theorem eve_is {C : Addr} {v : V} {Cs : List Addr} {i : Nat} (hσ : σ[i]? = some (some v)) (hr : EvP ta σ H (Ers v Cs) m) : EvP (tCons (tErr C (tCons (tVar i) tNil)) ta) σ H (Ers v (C :: Cs)) (m + 1) :=
  fun H1 S Q q => ⟨_, hσ, v, rfl, fun a H2 na S2 ea => hr H2 (S.trans S2) _ fun vs H3 S3 l p => q _ H3 (S2.trans S3) (by rw [List.length_cons, l]) (.cons ⟨a, rfl, ea.same S3⟩ p)⟩
theorem ers_app {v : V} {Bs Cs : List Addr} : ∀ (H : Hp) (xs ys : List V), Ers v Bs H xs → Ers v Cs H ys → Ers v (Bs ++ Cs) H (xs ++ ys) := fun H xs ys h1 h2 => by
  induction h1 with
  | nil => exact h2
  | cons h _ ih => exact .cons h ih
theorem ers_get {v : V} : ∀ {Cs : List Addr} {H : Hp} {vs : List V} {i : Nat} {x : V}, Ers v Cs H vs → vs[i]? = some x → ∃ e, x = .ref e ∧ ErrAt H e (Cs.getD i 0) v
  | _, _, _, _, _, .nil, h => by simp at h
  | _, _, _, 0, _, .cons h _, e => by obtain rfl := Option.some.inj e; exact h
  | _, _, _, i + 1, _, .cons _ t, e => ers_get (i := i) t e
end
end G
namespace G
open PySem PySem.Spec PyProof.Rows L2
/-- the written part's look at an error's class -/
def ecB (K : PySem.W.Frag) (fI C : Addr) : Bool :=
  decide (PySem.W.findIn K (.ref C) "__setattr__" = some (some (.builtin "object.__setattr__"))) &&
  (decide (PySem.W.subIn K (.ref C) (.type "BaseException") = some true) &&
  (decide (PySem.W.typeIn K (.ref C) = some (.type "type")) &&
  (PySem.W.keepIn K (.ref C) &&
  (PySem.W.hasDictIn K C &&
  (decide (PySem.W.findIn K (.ref C) "__getattribute__" = some (some (.builtin "BaseException.__getattribute__"))) &&
  (decide (PySem.W.findIn K (.ref C) "__getattr__" = some none) &&
  (decide (PySem.W.findIn K (.ref C) "value" = some none) &&
  (decide (PySem.W.findIn K (.ref C) "__class__" = some (some (.builtin "object.__class__"))) &&
  (decide (PySem.W.mroIn K C (.type "object") = some true) &&
  decide (PySem.W.findIn K (.ref C) "__init__" = some (some (.ref fI))))))))))))
theorem ecB_ok {K : PySem.W.Frag} {fI C : Addr} (h : ecB K fI C = true) (c : ∃ nm q N bs bm sn sub ab col dd k0 k1 k2 k3 k5, K.lookup C = some (excClassObj nm q C N bs bm true sn sub ab col dd k0 k1 k2 k3 k5 "ValueError.__new__") ∧ PySem.HandSPX.refsVE bm = true) :
    EC K C ∧ PySem.W.findIn K (.ref C) "__init__" = some (some (.ref fI)) := by
  unfold ecB at h
  simp only [Bool.and_eq_true, decide_eq_true_eq] at h
  obtain ⟨h1, h2, h3, h4, h5, h6, h7, h8, h9, h10, h11⟩ := h
  exact ⟨⟨⟨c, h1, h2, h3, h4⟩, h5, h6, h7, h8, h9, h10⟩, h11⟩
/-- which classes are which -/
def kindsB (K : PySem.W.Frag) (cs : List Addr) (b : Addr) : Bool :=
  ((List.range cs.length).all fun j => (List.range cs.length).all fun i => decide (PySem.W.kitOne K (.ref (cs.getD j 0)) (.ref (cs.getD i 0)) = some (decide (j = i)))) &&
  (cs.all (fun c => decide (PySem.W.kitOne K (.ref b) (.ref c) = some false) && (decide (PySem.W.kitOne K (.ref c) (.ref b) = some true) && decide (PySem.W.kitOne K (.ref c) (.type "ValueError") = some true))) &&
  decide (PySem.W.kitOne K (.ref b) (.type "ValueError") = some true))
structure Kinds (K : PySem.W.Frag) (cs : List Addr) (b : Addr) : Prop where
  two : ∀ j i, j < cs.length → i < cs.length → PySem.W.kitOne K (.ref (cs.getD j 0)) (.ref (cs.getD i 0)) = some (decide (j = i))
  low : ∀ c ∈ cs, PySem.W.kitOne K (.ref b) (.ref c) = some false
  up : ∀ c ∈ cs, PySem.W.kitOne K (.ref c) (.ref b) = some true
  ve : ∀ c ∈ cs, PySem.W.kitOne K (.ref c) (.type "ValueError") = some true
  bve : PySem.W.kitOne K (.ref b) (.type "ValueError") = some true
theorem kindsB_ok {K : PySem.W.Frag} {cs : List Addr} {b : Addr} (h : kindsB K cs b = true) : Kinds K cs b := by
  unfold kindsB at h
  simp only [Bool.and_eq_true, List.all_eq_true, decide_eq_true_eq, List.mem_range] at h
  obtain ⟨h1, h2, h3⟩ := h
  exact ⟨fun j i hj hi => h1 j hj i hi, fun c hc => (h2 c hc).1, fun c hc => (h2 c hc).2.1, fun c hc => (h2 c hc).2.2, h3⟩
end G

namespace G
open PySem PySem.Spec PyProof.Rows L2

/-! ### operators of an own class whose instances have a dict -/
section
variable {prog : Program} {w : World} {A : Around} {E : Value → Shared → Prop} {s : Shared} {K : PySem.W.Frag} {x C L f f0 : Addr} {h₀ : Heap} {m : Str → Option Value} {ox : Obj} {od : Option Obj} {nm T : String}
theorem binR_K {op : Operator} {i : Int} {t : Tok} {id : String} {B : Builtin} {Q : Value → Shared → Prop} (F : Fr h₀ L s.heap m) (X₀ : K.In h₀) (I : PySem.W.InstAt s.heap x ox C od) (hc : PySem.W.selfFirst K C = true)
    (hs0 : PySem.W.findIn K (.ref C) (PySem.dunder op.info.2) = some (some (.ref f0)))
    (hs : PySem.W.findIn K (.ref C) (dunderR op.info.2) = some (some (.ref f))) (hf : PySem.W.isFn K (.ref f) = true) (hsub : PySem.W.subIn K (.ref C) (.type "int") = some false)
    (hfill : fillsNumberSlot (.type "int") op.info.2 = pure true) (slot : Slot "int" (dunder op.info.2) id) (entry : entryFor table id = some B) (args : argsOk id ⟨[.int i t, .ref x], []⟩)
    (decl : ∀ (R : Result → Shared → Prop), R (.ok (.ret .notImplemented)) s → wpAny (model prog w) A.in1 (B ⟨[.int i t, .ref x], []⟩) (GQ.FinOf prog w A R) (fun e s' => R (.error e) s') s)
    (h : wpAny (model prog w) A (call (.ref f) [.ref x, .int i t]) (PySem.W.CmpBack Q) E s) : wpAny (model prog w) A (binaryOp op (.int i t) (.ref x)) Q E s := by
  have X := X₀.keeps F.keep
  obtain ⟨cd, rest, hcd, hm⟩ := PySem.W.ksp_first hc
  rcases hi : op.info with ⟨sym, nm'⟩
  rw [hi] at hs hs0 hfill slot
  dsimp only at hs hs0 hfill slot
  have one := PySem.W.ksp_try X I hs hf h
  have L2 : PySem.W.Looks (model prog w) s.heap (typeOf (.ref x)) (.ref C) := I.type
  have L3 : PySem.W.Looks (model prog w) s.heap (fillsNumberSlot (.ref C) nm') true := PySem.W.fills_K X hcd hm hs0
  have L5 : PySem.W.Looks (model prog w) s.heap (isSubtype (.ref C) (.type "int")) false := PySem.W.looks_subIn X hsub
  have hne : (Value.type "int" == Value.ref C) = false := Bool.eq_false_iff.mpr fun q => by cases beq_iff_eq.mp q
  have hT := typeIs_int s i t
  simp only [binaryOp, hi]
  refine wpAny_holding (wpAny_bind ?_)
  unfold binaryOp1
  refine wpAny_bind (wpAny_typeOf hT (wpAny_bind (L2.here (wpAny_bind (wpAny_of_eq hfill ?_)))))
  simp only [hne, Bool.false_eq_true, if_false]
  refine wpAny_bind (L3.here ?_)
  simp only [Bool.and_self, if_true]
  refine wpAny_bind (L5.here ?_)
  have hpy : numberSlotInPython (.type "int") nm' = pure false := rfl
  simp only [Bool.false_eq_true, if_false, pure_bind, Bool.not_false, Bool.and_self, if_true, hpy]
  refine wpAny_bind (wpAny_tryMethod_declines hT slot (GQ.call_here slot hT entry args (decl _ ⟨rfl, ?_⟩)))
  refine wpAny_bind (wpAny_mono one (fun r s' hr' => ?_) fun _ _ e => e)
  obtain ⟨v, rfl, hq⟩ := hr'
  exact wpAny_bind (wpAny_rule (wpAny_pure (wpAny_pure hq)))

theorem cmpR_K {op : CmpOp} {i : Int} {t : Tok} {id : String} {B : Builtin} {Q : Value → Shared → Prop} (hu : A.units < cLine) (F : Fr h₀ L s.heap m) (X₀ : K.In h₀) (I : PySem.W.InstAt s.heap x ox C od)
    (hs : PySem.W.findIn K (.ref C) (cmpInfo op).2.2 = some (some (.ref f))) (hf : PySem.W.isFn K (.ref f) = true) (hsub : PySem.W.subIn K (.ref C) (.type "int") = some false)
    (slot : Slot "int" (cmpInfo op).2.1 id) (entry : entryFor table id = some B) (args : argsOk id ⟨[.int i t, .ref x], []⟩)
    (decl : ∀ (R : Result → Shared → Prop), R (.ok (.ret .notImplemented)) s → wpAny (model prog w) A.in1 (B ⟨[.int i t, .ref x], []⟩) (GQ.FinOf prog w A R) (fun e s' => R (.error e) s') s)
    (h : wpAny (model prog w) A (call (.ref f) [.ref x, .int i t]) (PySem.W.CmpBack Q) E s) : wpAny (model prog w) A (richCompare op (.int i t) (.ref x)) Q E s := by
  have X := X₀.keeps F.keep
  have hT := typeIs_int s i t
  have one : wpAny (model prog w) A (tryCompare (.ref x) (cmpInfo op).2.2 (.int i t)) (fun r s' => ∃ v, r = some v ∧ Q v s') E s := by
    unfold tryCompare
    refine wpAny_bind (PySem.W.ifBound_K X I hs hf (wpAny_mono h (fun v s' hv => ?_) fun _ _ e => e))
    cases v <;> first | exact hv.elim | exact wpAny_pure ⟨_, rfl, hv⟩
  have hne : (Value.type "int" != Value.ref C) = true := by
    have h0 : (Value.type "int" == Value.ref C) = false := Bool.eq_false_iff.mpr fun q => by cases beq_iff_eq.mp q
    unfold bne
    rw [h0]
    rfl
  unfold richCompare
  simp only [hT.oneThing_none]
  refine wpAny_holding (wpAny_bind (wpAny_cRoomFor hu ?_))
  refine wpAny_bind (wpAny_typeOf hT (wpAny_bind (I.type.here ?_)))
  simp only [hne, if_true]
  refine wpAny_bind ((PySem.W.looks_subIn X hsub).here ?_)
  simp only [Bool.false_eq_true, if_false, Bool.not_false, if_true]
  refine wpAny_bind (wpAny_tryCompare_declines hT slot (GQ.call_here slot hT entry args (decl _ ⟨rfl, ?_⟩)))
  refine wpAny_bind (wpAny_mono one (fun r s' z => ?_) fun _ _ e => e)
  obtain ⟨v, rfl, hq⟩ := z
  exact wpAny_pure hq
/-- what a builtin of int says to an instance -/
def Decl (B : Builtin) : Prop := ∀ (prog : Program) (w : World) (A : Around) (R : Result → Shared → Prop) (s : Shared) (i : Int) (t : Tok) (x C dx : Addr), s.heap.get? x = some (PySem.W.instObj C dx) → R (.ok (.ret .notImplemented)) s →
  wpAny (model prog w) A.in1 (B ⟨[.int i t, .ref x], []⟩) (GQ.FinOf prog w A R) (fun e s' => R (.error e) s') s
theorem decl_add : Decl Builtin.«int.__add__» := fun prog w A R s i t x C dx hl h => by
  obtain ⟨hp, g, d, tk, os⟩ := s
  wp_walk using AutoSeq1.wpAny_loadPart' hl, wpAny_load' hl
  exact h
theorem decl_sub : Decl Builtin.«int.__sub__» := fun prog w A R s i t x C dx hl h => by
  obtain ⟨hp, g, d, tk, os⟩ := s
  wp_walk using AutoSeq1.wpAny_loadPart' hl, wpAny_load' hl
  exact h
theorem decl_mul : Decl Builtin.«int.__mul__» := fun prog w A R s i t x C dx hl h => by
  obtain ⟨hp, g, d, tk, os⟩ := s
  wp_walk using AutoSeq1.wpAny_loadPart' hl, wpAny_load' hl
  exact h
theorem decl_lt : Decl Builtin.«int.__lt__» := fun prog w A R s i t x C dx hl h => by
  obtain ⟨hp, g, d, tk, os⟩ := s
  wp_walk using AutoSeq1.wpAny_loadPart' hl, wpAny_load' hl
  exact h
theorem decl_le : Decl Builtin.«int.__le__» := fun prog w A R s i t x C dx hl h => by
  obtain ⟨hp, g, d, tk, os⟩ := s
  wp_walk using AutoSeq1.wpAny_loadPart' hl, wpAny_load' hl
  exact h
theorem decl_gt : Decl Builtin.«int.__gt__» := fun prog w A R s i t x C dx hl h => by
  obtain ⟨hp, g, d, tk, os⟩ := s
  wp_walk using AutoSeq1.wpAny_loadPart' hl, wpAny_load' hl
  exact h
theorem decl_ge : Decl Builtin.«int.__ge__» := fun prog w A R s i t x C dx hl h => by
  obtain ⟨hp, g, d, tk, os⟩ := s
  wp_walk using AutoSeq1.wpAny_loadPart' hl, wpAny_load' hl
  exact h
end

section
variable {X : Cx} {CX : CXT} {pins : List (Addr × Obj)} {σ : L2.St} {H : Hp} {s : Shared} {a C dx p g f f0 : Addr} {fs : List (Str × V)} {n : Nat} {sp : Sp} {E : XK}
theorem ins_inst (I : Inv X pins σ H s) (h : H a = some (.ins C dx fs)) : ∃ (od : Obj) (mA : Str → Option Value), PySem.W.InstAt s.heap a (PySem.W.instObj C dx) C (some od) ∧ (∀ name, PySem.W.lookIn name od = some (mA name)) ∧ ∀ f, RelO (fs.lookup f) (mA f) := by
  obtain ⟨mA, J, r, _⟩ := ins_get I.hok h
  obtain ⟨od, J2, l⟩ := J.look
  exact ⟨od, mA, J2, l, r⟩
/-- a def of no defaults, by position -/
theorem fnR {fd : FuncData} {ps : List Str} (F : FnOk X.prog X.w X.K X.mg X.base CX n g fd ps sp) (b : Binds X.K fd ps []) : FnR X.prog X.w X.K X.mg X.base CX n g sp :=
  (FnOk.raw F b .nil).imp fun vs H Q E h => by rw [List.append_nil]; exact h
/-- x op y: both instances; y an int -/
def rBinK (C : Addr) (sp : Sp) (E : XK) : R2 := fun x y H Q => ∃ a b dx dy fs gs, x = .ref a ∧ y = .ref b ∧ H a = some (.ins C dx fs) ∧ H b = some (.ins C dy gs) ∧ sp [x, y] H Q E
def rBinT (C : Addr) (sp : Sp) (E : XK) : R2 := fun x y H Q => ∃ a dx fs i, x = .ref a ∧ y = .int i ∧ H a = some (.ins C dx fs) ∧ sp [x, y] H Q E
def rBinR (C : Addr) (sp : Sp) (E : XK) : R2 := fun x y H Q => ∃ a dx fs i, x = .int i ∧ y = .ref a ∧ H a = some (.ins C dx fs) ∧ sp [y, x] H Q E
/-- what the text says of the class's defs for op: __op__ at f, __rop__ at g -/
structure OpC (K : PySem.W.Frag) (C f g : Addr) (nm : String) : Prop where
  first : PySem.W.selfFirst K C = true
  at_ : PySem.W.findIn K (.ref C) (PySem.dunder nm) = some (some (.ref f))
  fn : PySem.W.isFn K (.ref f) = true
  rat : PySem.W.findIn K (.ref C) (dunderR nm) = some (some (.ref g))
  rfn : PySem.W.isFn K (.ref g) = true
  i1 : ∃ fo, PySem.W.findIn K (.type "int") (PySem.dunder nm) = some fo
  i2 : ∃ ro, PySem.W.findIn K (.type "int") (dunderR nm) = some ro
  s1 : PySem.W.subIn K (.type "int") (.ref C) = some false
  s2 : PySem.W.subIn K (.ref C) (.type "int") = some false
def opcB (K : PySem.W.Frag) (C f g : Addr) (nm : String) : Bool :=
  PySem.W.selfFirst K C && decide (PySem.W.findIn K (.ref C) (PySem.dunder nm) = some (some (.ref f))) && PySem.W.isFn K (.ref f) && decide (PySem.W.findIn K (.ref C) (dunderR nm) = some (some (.ref g))) && PySem.W.isFn K (.ref g)
    && (PySem.W.findIn K (.type "int") (PySem.dunder nm)).isSome && (PySem.W.findIn K (.type "int") (dunderR nm)).isSome && decide (PySem.W.subIn K (.type "int") (.ref C) = some false) && decide (PySem.W.subIn K (.ref C) (.type "int") = some false)
theorem opcB_ok {K : PySem.W.Frag} {C f g : Addr} {nm : String} (h : opcB K C f g nm = true) : OpC K C f g nm := by
  unfold opcB at h
  simp only [Bool.and_eq_true, decide_eq_true_eq] at h
  obtain ⟨⟨⟨⟨⟨⟨⟨⟨h1, h2⟩, h3⟩, h4⟩, h5⟩, h6⟩, h7⟩, h8⟩, h9⟩ := h
  exact ⟨h1, h2, h3, h4, h5, Option.isSome_iff_exists.mp h6, Option.isSome_iff_exists.mp h7, h8, h9⟩
theorem op_binK {op : Operator} (O : OpC X.K C f g op.info.2) (F : FnR X.prog X.w X.K X.mg X.base CX n f sp) (hr : Room n X.A) (hx : Passes CX X E) : OpR X (binaryOp op) (rBinK C sp E) := by
  intro pins s σ H x y v u Q I rx ry h
  obtain ⟨a, b, dx, dy, fs, gs, rfl, rfl, ha, hb, q⟩ := h
  cases (show v = Value.ref a from rx)
  cases (show u = Value.ref b from ry)
  obtain ⟨od, mA, J, _⟩ := ins_inst I ha
  obtain ⟨od', mA', J', _⟩ := ins_inst I hb
  obtain ⟨m, hF⟩ := I.fr
  refine PySem.W.binop_K hF I.ok.mod.kin J J'.type O.first O.at_ O.fn ?_
  refine wpAny_mono (wpAny_call (run_fnR (us := [.ref a, .ref b]) (vs := [.ref a, .ref b]) F hr hx I (.cons rfl (.cons rfl .nil)) q)) (fun w s' z => ?_) fun _ _ x => x
  obtain ⟨z', H', I', rz, qz⟩ := z
  exact SlX.cmpback rz ⟨z', H', I', rz, qz⟩
theorem op_binT {op : Operator} (O : OpC X.K C f g op.info.2) (F : FnR X.prog X.w X.K X.mg X.base CX n f sp) (hr : Room n X.A) (hx : Passes CX X E) : OpR X (binaryOp op) (rBinT C sp E) := by
  intro pins s σ H x y v u Q I rx ry h
  obtain ⟨a, dx, fs, i, rfl, rfl, ha, q⟩ := h
  cases (show v = Value.ref a from rx)
  obtain ⟨t, e⟩ := (show ∃ t, u = Value.int i t from ry)
  cases e
  obtain ⟨od, mA, J, _⟩ := ins_inst I ha
  obtain ⟨m, hF⟩ := I.fr
  obtain ⟨fo, h1⟩ := O.i1
  obtain ⟨ro, h2⟩ := O.i2
  refine PySem.W.ksp_binT hF I.ok.mod.kin J rfl O.first O.at_ O.fn O.rat (.inr ⟨g, rfl⟩) h1 h2 O.s1 ?_
  refine wpAny_mono (wpAny_call (run_fnR (us := [.ref a, .int i t]) (vs := [.ref a, .int i]) F hr hx I (.cons rfl (.cons ⟨t, rfl⟩ .nil)) q)) (fun w s' z => ?_) fun _ _ x => x
  obtain ⟨z', H', I', rz, qz⟩ := z
  exact SlX.cmpback rz ⟨z', H', I', rz, qz⟩
/-- the builtin of int for op -/
structure IntOp (nm : String) (id : String) (B : Builtin) : Prop where
  fill : fillsNumberSlot (.type "int") nm = pure true
  slot : Slot "int" (dunder nm) id
  entry : entryFor table id = some B
  args : ∀ a b, argsOk id ⟨[a, b], []⟩
  decl : Decl B
theorem io_add : IntOp "add" "int.__add__" Builtin.«int.__add__» := ⟨F.fills_int_add, F.slot_int_add, F.entry_int_add, F.args_int_add_2, decl_add⟩
theorem io_sub : IntOp "sub" "int.__sub__" Builtin.«int.__sub__» := ⟨F.fills_int_sub, F.slot_int_sub, F.entry_int_sub, F.args_int_sub_2, decl_sub⟩
theorem io_mul : IntOp "mul" "int.__mul__" Builtin.«int.__mul__» := ⟨F.fills_int_mul, F.slot_int_mul, F.entry_int_mul, F.args_int_mul_2, decl_mul⟩
theorem op_binR {op : Operator} {id : String} {B : Builtin} (O : OpC X.K C f g op.info.2) (T : IntOp op.info.2 id B) (F : FnR X.prog X.w X.K X.mg X.base CX n g sp) (hr : Room n X.A) (hx : Passes CX X E) : OpR X (binaryOp op) (rBinR C sp E) := by
  intro pins s σ H x y v u Q I rx ry h
  obtain ⟨a, dx, fs, i, rfl, rfl, ha, q⟩ := h
  cases (show u = Value.ref a from ry)
  obtain ⟨t, e⟩ := (show ∃ t, v = Value.int i t from rx)
  cases e
  obtain ⟨od, mA, J, _⟩ := ins_inst I ha
  obtain ⟨m, hF⟩ := I.fr
  refine binR_K hF I.ok.mod.kin J O.first O.at_ O.rat O.rfn O.s2 T.fill T.slot T.entry (T.args _ _) (fun R => T.decl _ _ _ R _ _ _ _ _ _ J.at_) ?_
  refine wpAny_mono (wpAny_call (run_fnR (us := [.ref a, .int i t]) (vs := [.ref a, .int i]) F hr hx I (.cons rfl (.cons ⟨t, rfl⟩ .nil)) q)) (fun w s' z => ?_) fun _ _ x => x
  obtain ⟨z', H', I', rz, qz⟩ := z
  exact SlX.cmpback rz ⟨z', H', I', rz, qz⟩
/-- comparisons: the class's def at f, the one for the other side at g -/
structure CmpC (K : PySem.W.Frag) (C f g : Addr) (op : CmpOp) : Prop where
  at_ : PySem.W.findIn K (.ref C) (cmpInfo op).2.1 = some (some (.ref f))
  fn : PySem.W.isFn K (.ref f) = true
  rat : PySem.W.findIn K (.ref C) (cmpInfo op).2.2 = some (some (.ref g))
  rfn : PySem.W.isFn K (.ref g) = true
  nf : PySem.W.notFirst K C (.ref C) = true
  nfi : PySem.W.notFirst K C (.type "int") = true
  s2 : PySem.W.subIn K (.ref C) (.type "int") = some false
def cmpcB (K : PySem.W.Frag) (C f g : Addr) (op : CmpOp) : Bool :=
  decide (PySem.W.findIn K (.ref C) (cmpInfo op).2.1 = some (some (.ref f))) && PySem.W.isFn K (.ref f) && decide (PySem.W.findIn K (.ref C) (cmpInfo op).2.2 = some (some (.ref g))) && PySem.W.isFn K (.ref g)
    && PySem.W.notFirst K C (.ref C) && PySem.W.notFirst K C (.type "int") && decide (PySem.W.subIn K (.ref C) (.type "int") = some false)
theorem cmpcB_ok {K : PySem.W.Frag} {C f g : Addr} {op : CmpOp} (h : cmpcB K C f g op = true) : CmpC K C f g op := by
  unfold cmpcB at h
  simp only [Bool.and_eq_true, decide_eq_true_eq] at h
  obtain ⟨⟨⟨⟨⟨⟨h1, h2⟩, h3⟩, h4⟩, h5⟩, h6⟩, h7⟩ := h
  exact ⟨h1, h2, h3, h4, h5, h6, h7⟩
theorem op_cmpK {op : CmpOp} (hop : ∀ a b, compareOp op a b = richCompare op a b) (O : CmpC X.K C f g op) (F : FnR X.prog X.w X.K X.mg X.base CX n f sp) (hr : Room n X.A) (hx : Passes CX X E) : OpR X (compareOp op) (rBinK C sp E) := by
  intro pins s σ H x y v u Q I rx ry h
  obtain ⟨a, b, dx, dy, fs, gs, rfl, rfl, ha, hb, q⟩ := h
  cases (show v = Value.ref a from rx)
  cases (show u = Value.ref b from ry)
  obtain ⟨od, mA, J, _⟩ := ins_inst I ha
  obtain ⟨od', mA', J', _⟩ := ins_inst I hb
  obtain ⟨m, hF⟩ := I.fr
  rw [hop]
  refine PySem.W.cmp_K (op := op) (tb := .ref C) hr.units0 hF I.ok.mod.kin J J'.type O.nf O.at_ O.fn ?_
  refine wpAny_mono (wpAny_call (run_fnR (us := [.ref a, .ref b]) (vs := [.ref a, .ref b]) F hr hx I (.cons rfl (.cons rfl .nil)) q)) (fun w s' z => ?_) fun _ _ x => x
  obtain ⟨z', H', I', rz, qz⟩ := z
  exact SlX.cmpback rz ⟨z', H', I', rz, qz⟩
theorem op_cmpT {op : CmpOp} (hop : ∀ a b, compareOp op a b = richCompare op a b) (O : CmpC X.K C f g op) (F : FnR X.prog X.w X.K X.mg X.base CX n f sp) (hr : Room n X.A) (hx : Passes CX X E) : OpR X (compareOp op) (rBinT C sp E) := by
  intro pins s σ H x y v u Q I rx ry h
  obtain ⟨a, dx, fs, i, rfl, rfl, ha, q⟩ := h
  cases (show v = Value.ref a from rx)
  obtain ⟨t, e⟩ := (show ∃ t, u = Value.int i t from ry)
  cases e
  obtain ⟨od, mA, J, _⟩ := ins_inst I ha
  obtain ⟨m, hF⟩ := I.fr
  rw [hop]
  refine PySem.W.cmp_K (op := op) (tb := .type "int") hr.units0 hF I.ok.mod.kin J (PySem.W.Looks.of_pure rfl) O.nfi O.at_ O.fn ?_
  refine wpAny_mono (wpAny_call (run_fnR (us := [.ref a, .int i t]) (vs := [.ref a, .int i]) F hr hx I (.cons rfl (.cons ⟨t, rfl⟩ .nil)) q)) (fun w s' z => ?_) fun _ _ x => x
  obtain ⟨z', H', I', rz, qz⟩ := z
  exact SlX.cmpback rz ⟨z', H', I', rz, qz⟩
structure IntCmp (op : CmpOp) (id : String) (B : Builtin) : Prop where
  slot : Slot "int" (cmpInfo op).2.1 id
  entry : entryFor table id = some B
  args : ∀ a b, argsOk id ⟨[a, b], []⟩
  decl : Decl B
theorem ic_lt : IntCmp .Lt "int.__lt__" Builtin.«int.__lt__» := ⟨F.slot_int_lt, F.entry_int_lt, F.args_int_lt_2, decl_lt⟩
theorem ic_le : IntCmp .LtE "int.__le__" Builtin.«int.__le__» := ⟨F.slot_int_le, F.entry_int_le, F.args_int_le_2, decl_le⟩
theorem ic_gt : IntCmp .Gt "int.__gt__" Builtin.«int.__gt__» := ⟨F.slot_int_gt, F.entry_int_gt, F.args_int_gt_2, decl_gt⟩
theorem ic_ge : IntCmp .GtE "int.__ge__" Builtin.«int.__ge__» := ⟨F.slot_int_ge, F.entry_int_ge, F.args_int_ge_2, decl_ge⟩
theorem op_cmpR {op : CmpOp} {id : String} {B : Builtin} (hop : ∀ a b, compareOp op a b = richCompare op a b) (O : CmpC X.K C f g op) (T : IntCmp op id B) (F : FnR X.prog X.w X.K X.mg X.base CX n g sp) (hr : Room n X.A) (hx : Passes CX X E) : OpR X (compareOp op) (rBinR C sp E) := by
  intro pins s σ H x y v u Q I rx ry h
  obtain ⟨a, dx, fs, i, rfl, rfl, ha, q⟩ := h
  cases (show u = Value.ref a from ry)
  obtain ⟨t, e⟩ := (show ∃ t, v = Value.int i t from rx)
  cases e
  obtain ⟨od, mA, J, _⟩ := ins_inst I ha
  obtain ⟨m, hF⟩ := I.fr
  rw [hop]
  refine cmpR_K hr.units0 hF I.ok.mod.kin J O.rat O.rfn O.s2 T.slot T.entry (T.args _ _) (fun R => T.decl _ _ _ R _ _ _ _ _ _ J.at_) ?_
  refine wpAny_mono (wpAny_call (run_fnR (us := [.ref a, .int i t]) (vs := [.ref a, .int i]) F hr hx I (.cons rfl (.cons ⟨t, rfl⟩ .nil)) q)) (fun w s' z => ?_) fun _ _ x => x
  obtain ⟨z', H', I', rz, qz⟩ := z
  exact SlX.cmpback rz ⟨z', H', I', rz, qz⟩
/-- -x of an instance -/
def rUnK (C : Addr) (sp : Sp) (E : XK) : V → Hp → VK → Prop := fun x H Q => ∃ a dx fs, x = .ref a ∧ H a = some (.ins C dx fs) ∧ sp [x] H Q E
theorem un_negK (hs : PySem.W.findIn X.K (.ref C) "__neg__" = some (some (.ref f))) (hf : PySem.W.isFn X.K (.ref f) = true) (F : FnR X.prog X.w X.K X.mg X.base CX n f sp) (hr : Room n X.A) (hx : Passes CX X E) : UnR X (unaryOp .USub) (rUnK C sp E) := by
  intro pins s σ H x v Q I rx h
  obtain ⟨a, dx, fs, rfl, ha, q⟩ := h
  cases (show v = Value.ref a from rx)
  obtain ⟨od, mA, J, _⟩ := ins_inst I ha
  obtain ⟨m, hF⟩ := I.fr
  exact PySem.W.ksp_neg hF I.ok.mod.kin J hs hf (wpAny_call (run_fnR (us := [.ref a]) (vs := [.ref a]) F hr hx I (.cons rfl .nil) q))
end
end G

namespace G
open PySem PySem.Spec PyProof.Rows L2

/-! ### an error that is caught and kept -/
/-- an error of the class at C that was raised once -/
def exc (a C : Addr) (d : Option Addr) : HO := .ext fun h => ∃ (oe : Obj) (vs : Array Value), h.get? a = some oe ∧ Zc (.ref C) d oe ∧ oe.data = .fields vs
theorem exc_ok {P : Program} {w : World} {H : Hp} {h : Heap} {a C : Addr} {d : Option Addr} {oe : Obj} {vs : Array Value} (e : h.get? a = some oe) (z : Zc (.ref C) d oe) (dt : oe.data = .fields vs) : ObjOk P w H h a (exc a C d) :=
  ⟨⟨oe, vs, e, z, dt⟩, ⟨oe, e⟩, fun h1 h2 ⟨o, v, x, y, u⟩ k => ⟨o, v, k _ x, y, u⟩⟩
/-- the caught error, with what it keeps -/
def Caught (H : Hp) (a C : Addr) (v : V) : Prop := ∃ d, H a = some (exc a C (some d)) ∧ H d = some (.xd [("value", v)])
theorem Caught.same {H H' : Hp} (S : Same H H') {a C : Addr} {v : V} (e : Caught H a C v) : Caught H' a C v := let ⟨d, h1, h2⟩ := e; ⟨d, S _ _ h1, S _ _ h2⟩

section
variable {X : Cx} {pins : List (Addr × Obj)} {σ : L2.St} {H : Hp} {s : Shared} {a C : Addr}
/-- an object that is there, new since the entry, is tracked from now on -/
theorem adopt {o : HO} (I : Inv X pins σ H s) (hx : X.ex = []) (na : H a = none) (n0 : X.s_0.heap.get? a = none) (nL : a ≠ X.env.locals) (nc : ∀ x c, X.env.cells.lookup x = some c → c ≠ a) (np : ∀ p ∈ X.pn ++ pins, p.1 ≠ a)
    (new : ObjOk X.prog X.w (upd H a o) s.heap a o) : Inv X pins σ (upd H a o) s := by
  have old : ∀ {b : Addr} {u : HO}, H b = some u → upd H a o b = some u := fun {b u} e => by
    rw [upd_ne (fun z => by rw [z, na] at e; cases e)]
    exact e
  refine ⟨I.ok, I.os, I.bare, ⟨I.base.keep, I.base.slot, fun b ob e n hb => ?_, I.base.there, fun b xs e => old (I.base.tups b xs e), fun b ob u e => old (I.base.frzs b ob u e), fun b ps e => ?_⟩, I.loc, I.cell, ?_, fun x c e => ?_, fun p hp => ?_,
    I.hok.laidN (fun _ _ z => z) na new, I.len⟩
  · rw [upd_ne (fun z => by rw [z, n0] at e; cases e)]
    exact I.base.free b ob e n hb
  · obtain ⟨m, z⟩ := I.base.tbls b ps e
    exact ⟨m, old z⟩
  · rw [upd_ne (Ne.symm nL)]
    exact I.free
  · rw [upd_ne (nc x c e)]
    exact I.freeC x c e
  · obtain ⟨p1, p2, p3⟩ := I.pin p hp
    exact ⟨p1, by rw [upd_ne (np p hp)]; exact p2, p3⟩
end

/-- what 'except x as n' wishes, where the error is kept by the suite -/
def wAsT (K : PySem.W.Frag) (c : Value) (i : Nat) (ts : Addr → Value → Option Addr → TS) (D : Ends) : WX := fun cls d σ H =>
  PySem.W.exmOne K cls c = some true ∧ ∃ C, cls = .ref C ∧ ∀ a, H a = none → ts a cls d { nx := fun σ' H' => D.nx (σ'.set i none) (upd H' a (exc a C d)), rt := fun _ _ => False, bk := fun _ _ => False, ct := fun _ _ => False } (σ.set i (some (.ref a))) H
section
variable {X : Cx} {x n : Str} {c : Value} {i : Nat} {body suite : List Stmt} {b₀ : Stmt} {np pos pos' : Pos} {tb : WX → TS} {ts : Addr → Value → Option Addr → TS} {Wout : WX}
theorem ps_try_asT (hx : X.ex = []) (hs : X.stack = X.env :: X.outer) (hf : X.env.frame = some X.env.locals) (hN : X.N.Nodup) (hi : X.N[i]? = some n) (hln : X.env.kindOf n = some .local) (hc : Names X x c)
    (hb : ∀ (W : WX) (pn : List (Addr × Obj)) (xe : Value → Shared → Prop), Takes (X.tr pn xe) W → PassesOwn (model X.prog X.w) X.A X.env xe → PSs (X.tr pn xe) body (tb W))
    (hsu : ∀ (a : Addr) (oe : Obj) (cls : Value) (d : Option Addr) (pn : List (Addr × Obj)), Zc cls d oe → (∃ vs, oe.data = .fields vs) → PSs (X.suite a ((a, oe) :: pn)) (b₀ :: suite) (ts a cls d)) :
    PS X (.Try body [.ExceptHandler (some (.Name x np)) (some n) (b₀ :: suite) pos'] [] [] pos) (fun D σ H => tb (wAsT X.K c i ts D) D σ H) := by
  refine ⟨fun pins s σ H D I h => ?_⟩
  have ok := I.ok
  have hfr : X.A.frames = some (X.env :: X.outer) := by rw [ok.frames, hs]
  have hloc : Loc X.env.scope n := .inl hln
  refine wpAny_Try_except ?_
  refine wpAny_mono ((hb (wAsT X.K c i ts D) (X.pn ++ pins) (fun e s₁ => wpAny (model X.prog X.w) X.A (noteFrame e X.env) (fun _ s₂ => wpAny (model X.prog X.w) X.A (setFlight e none) (fun _ s₃ =>
    wpAny (model X.prog X.w) X.A (handleBy e X.env [.ExceptHandler (some (.Name x np)) (some n) (b₀ :: suite) pos']) (SP X pins D) X.xe s₃) X.xe s₂) X.xe s₁) (fun u s' xx => ?_) PassesOwn.looking).run [] s σ H D (I.toTry _) h) (fun f s1 hsp => ?_) (fun e s1 he => he)
  · -- the catch
    obtain ⟨a, B, sI, pins', σ', H', cls, d, rfl, J', nb, up, sky, na, os, ag, hb1, C, rfl, hyes⟩ := xx
    have J : Inv X pins σ' H' sI := J'.ofTry ok
    have sky' : Sky B (X.env :: X.outer) a (Zc (.ref C) d) X.env.locals s'.heap := by rw [← hs]; exact sky
    show wpAny (model X.prog X.w) X.A (noteFrame (.ref a) X.env) _ _ _
    refine Sky.land Zc.steady hfr hf sky' fun h3 fl3 up3 => ?_
    have J3 : Inv X pins σ' H' { s' with heap := h3 } := J.landed nb fl3.1 (up.trans up3) os ag
    obtain ⟨oe3, vs3, he3, hz3, hd3⟩ := fl3.there
    have notFr : ∀ {h : Heap} {o : Obj} {vs : Array Value}, h.FunFrames B (X.env :: X.outer) → h.get? a = some o → o.data = .fields vs → a ∉ frs (X.env :: X.outer) := fun {h o vs} ff e dd hm => by
      obtain ⟨_, o', e', hnf⟩ := ff.mem hm
      rw [e] at e'; cases e'
      exact hnf _ dd
    have nfr := notFr fl3.2.2.1 he3 hd3
    have nL : a ≠ X.env.locals := fun z => nfr (List.mem_filterMap.mpr ⟨X.env, List.mem_cons_self, by rw [hf, z]⟩)
    have nF : a ∉ X.fs := fun hm => by
      obtain ⟨e, he, q⟩ := List.mem_filterMap.mp hm
      exact nfr (List.mem_filterMap.mpr ⟨e, List.mem_cons_of_mem _ he, q⟩)
    have nI : sI.heap.get? a = none := by
      cases e : sI.heap.get? a with
      | none => rfl
      | some o =>
        have z := nb a o e (by rw [hs]; exact nfr)
        rw [fl3.2.1] at z
        cases z
    have n0 : X.s_0.heap.get? a = none := by
      cases e : X.s_0.heap.get? a with
      | none => rfl
      | some o =>
        obtain ⟨o', z⟩ := J.base.there a o e (by rw [hx]; exact fun z => nomatch z)
        rw [nI] at z
        cases z
    have S3 := J3.suite he3 hd3 na nL nF
    refine wpAny_handleBy_cons (codeAny_handlers_test ?_) (by intro q; cases q)
    have LT : PySem.W.Looks (model X.prog X.w) h3 (typeOf (.ref a)) (.ref C) := fun A Q E s k q => wpAny_typeOf_ref (k _ _ he3) (by rw [hz3.1]; exact q)
    have LM := PySem.W.exm_one (M := model X.prog X.w) (J3.kIn) LT hb1
    have test : ∀ {Q : Value → Shared → Prop} {E : Value → Shared → Prop}, Q c { s' with heap := h3 } → wpAny (model X.prog X.w) (X.A.mark (some (.ref a))) (eval (.Name x np) X.env) Q E { s' with heap := h3 } := fun {Q E} q => by
      obtain ⟨hg, hdbg, hm | ⟨hm, hv, hnn⟩⟩ := hc
      · exact ld_glob (X := X.suite a ((a, oe3) :: (X.pn ++ pins))) S3 hg hm q hdbg
      · exact ld_blt (X := X.suite a ((a, oe3) :: (X.pn ++ pins))) S3 hg hm hv q hnn hdbg
    refine test (LM.here ?_)
    refine codeAny_handlers_suite_as ?_
    refine HandSPX.lands_againZ fl3 fun h4 fl4 up4 => ?_
    have J4 : Inv X pins σ' H' { s' with heap := h4 } := J.landed nb fl4.1 ((up.trans up3).trans up4) os ag
    obtain ⟨oe4, vs4, he4, hz4, hd4⟩ := fl4.there
    have S4 := J4.suite he4 hd4 na nL nF
    refine store_ok (X := X.suite a ((a, oe4) :: (X.pn ++ pins))) (v := .ref a) S4 hN hi hloc rfl (fun s5 S5 => ?_) (.inr hln)
    refine wpAny_mono ((hsu a oe4 (.ref C) d (X.pn ++ pins) hz4 ⟨_, hd4⟩).run [] s5 _ H' _ S5 (hyes a na)) (fun f s6 hsp => ?_) (fun _ _ z => False.elim z)
    cases f with
    | next =>
      obtain ⟨σ6, H6, S6, q6⟩ := hsp
      have P6 : Inv X ((a, oe4) :: pins) σ6 H6 s6 := ⟨ok, S6.os, S6.bare, S6.base, S6.loc, S6.cell, S6.free, S6.freeC, fun p hp => S6.pin p (by
        have hp' : p ∈ (a, oe4) :: (X.pn ++ pins) := by
          rcases List.mem_append.mp hp with z | z
          · exact List.mem_cons_of_mem _ (List.mem_append_left _ z)
          · rcases List.mem_cons.mp z with z | z
            · rw [z]; exact List.mem_cons_self
            · exact List.mem_cons_of_mem _ (List.mem_append_right _ z)
        exact List.mem_append_left _ hp'), S6.hok, S6.len⟩
      refine gone_ok P6 hN hi hln fun s7 J7 => ?_
      obtain ⟨e7, na7, nL7, nF7, nc7⟩ := J7.pin (a, oe4) (List.mem_append_right _ List.mem_cons_self)
      have K7 : Inv X pins (σ6.set i none) H6 s7 := ⟨ok, J7.os, J7.bare, J7.base, J7.loc, J7.cell, J7.free, J7.freeC, fun p hp => J7.pin p (by
        rcases List.mem_append.mp hp with z | z
        · exact List.mem_append_left _ z
        · exact List.mem_append_right _ (List.mem_cons_of_mem _ z)), J7.hok, J7.len⟩
      refine ⟨_, _, adopt K7 hx na7 n0 nL (fun y cc e z => ?_) (fun p hp z => ?_) (exc_ok e7 hz4 hd4), q6⟩
      · obtain ⟨v, o, ho, hd⟩ := J7.cell y cc e
        rw [z, e7] at ho
        cases ho
        exact nc7 _ hd
      · have w := (J.pin p hp).1
        rw [z, nI] at w
        cases w
    | brk =>
      obtain ⟨σ6, H6, S6, q6⟩ := hsp
      exact q6.elim
    | cont =>
      obtain ⟨σ6, H6, S6, q6⟩ := hsp
      exact q6.elim
    | ret u =>
      obtain ⟨v6, σ6, H6, S6, r6, q6⟩ := hsp
      exact q6.elim
  · cases f with
    | next =>
      obtain ⟨σ', H', J', q⟩ := hsp
      exact wpAny_execs_nil ⟨σ', H', J'.ofTry ok, q⟩
    | brk =>
      obtain ⟨σ', H', J', q⟩ := hsp
      exact ⟨σ', H', J'.ofTry ok, q⟩
    | cont =>
      obtain ⟨σ', H', J', q⟩ := hsp
      exact ⟨σ', H', J'.ofTry ok, q⟩
    | ret u =>
      obtain ⟨v, σ', H', J', r, q⟩ := hsp
      exact ⟨v, σ', H', J'.ofTry ok, r, q⟩
end

/-! ### what is read of it -/
section
variable {X : Cx}
theorem caught_inst {pins : List (Addr × Obj)} {σ : L2.St} {H : Hp} {s : Shared} (I : Inv X pins σ H s) {a C : Addr} {v : V} (e : Caught H a C v) :
    ∃ (ox : Obj) (od : Obj) (mA : Str → Option Value) (dx : Addr), PySem.W.InstAt s.heap a ox C (some od) ∧ s.heap.Ns1 dx mA ∧ s.heap.get? dx = some od ∧ (∀ f, RelO (([("value", v)] : List (Str × V)).lookup f) (mA f)) := by
  obtain ⟨d, h1, h2⟩ := e
  obtain ⟨⟨oe, vs, ho, hz, dt⟩, _, _⟩ := (show ObjOk X.prog X.w H s.heap a (exc a C (some d)) from I.hok a _ h1)
  obtain ⟨mA, hn, hr⟩ := (show ObjOk X.prog X.w H s.heap d (.xd [("value", v)]) from I.hok d _ h2)
  obtain ⟨o, es, ep, hd, hz'⟩ := id hn
  refine ⟨oe, o, mA, d, ⟨ho, hz.1, ?_, ?_⟩, hn, hd, hr⟩
  · unfold PySem.W.notCls
    rw [dt]
  · rw [hz.2]
    exact hd
/-- e.value -/
theorem pe_valueC {e : Expr} {te : TE} {pos : Pos} (he : PE X e te) (hb : attributeBase e "value" X.env (eval e X.env) = eval e X.env := by rfl) :
    PE X (.Attribute e "value" pos) (fun σ H Q => te σ H fun x H1 => ∃ a C v, x = .ref a ∧ EC X.K C ∧ Caught H1 a C v ∧ Q v H1) := by
  constructor
  intro pins s σ H Q I h
  refine attr_of hb (thn (he.run pins s σ H _ I h) ?_)
  rintro u s1 ⟨x, H1, I1, rx, a, C, v, rfl, T, ea, q⟩
  cases rx
  obtain ⟨ox, od, mA, dx, J, hn, hd, hr⟩ := caught_inst I1 ea
  obtain ⟨od', hod, hl⟩ := lookIn_ns hn
  have eo : od' = od := Option.some.inj (hod.symm.trans hd)
  subst eo
  obtain ⟨u, hu, ru⟩ := RelO.some_of (v := v) (o := mA "value") (by have := hr "value"; simpa [List.lookup] using this)
  exact HandSPX.exc_get I1.kIn J T.ga T.gg T.ox.exC (PySem.W.findObj_own T.hd T.nv rfl (by rw [hl, hu])) (handed_of ru) ⟨v, H1, I1.tok _, ru, q⟩
/-- isinstance(e, C) of such an error, or of None -/
theorem call_isCaught (S : EK X.K) : CallR X (.builtin "isinstance") (fun xs H Q => ∃ (a C : Addr) (v c : V) (u : Value) (b : Bool), xs = [.ref a, c] ∧ ClsV c u ∧ EC X.K C ∧ Caught H a C v ∧ PySem.W.kitOne X.K (.ref C) u = some b ∧ Q (.bl b) H) := by
  intro pins s σ H xs us Q I r h
  obtain ⟨a, C, v, c, u, b, rfl, k, T, ea, e, q⟩ := h
  obtain ⟨u1, u2, rfl, r1, r2⟩ := vals2 r
  have e2 := k.eq r2
  subst e2
  cases r1
  obtain ⟨ox, od, mA, dx, J, hn, hd, hr⟩ := caught_inst I ea
  exact PySem.W.kia_one (PySem.W.kitx_exc (gt := none) T.cls T.ga T.gg T.ox.exC T.kl S.sp S.tk T.ob) I.kIn J e (fun z => nomatch z) fun tk => ⟨.bl b, H, I.tok tk, rfl, q⟩
end
end G

namespace G
open PySem PySem.Spec PyProof.Rows L2 LamX

/-! ### a lambda handed to a def that catches what it raises; the wish may look at the slots -/
section
variable {X : Cx} {pins : List (Addr × Obj)} {σ : L2.St} {H HZ : Hp} {s s1 : Shared}
/-- the lambda's own name and object -/
abbrev lamName (X : Cx) : Str := X.env.qual ++ "<lambda>"
abbrev lamObj (X : Cx) (params : Arguments) (body : Expr) (scope : Scope) (pm : Value) (c' : Addr) (ctv : Value) : Obj := PySem.W.kla_obj "<lambda>" (lamName X) params body scope (cloFrom X.env.cells scope.names []) pm c' ctv
theorem lam_runs {A : Around} {outer : List Env} {E : XK} {Q : VK} {f c' : Addr} {pm ctv : Value} {params : Arguments} {body : Expr} {scope : Scope} {k : Nat} {tb : TE}
    (I : Inv X pins σ H s) (L : LamS X.env.scope scope) (of : s1.heap.get? f = some (lamObj X params body scope pm c' ctv)) (un : Un (frs X.stack) [] H HZ s.heap s1.heap)
    (e0 : Env0 X.prog X.w X.K X.mg X.base A outer s1 HZ) (hr : Room (k + 1) A) (hc : HZ c' = some (CodeO c' (lamName X)))
    (nb : bindArgs (PySem.W.kla_fn "<lambda>" (lamName X) params body scope (cloFrom X.env.cells scope.names []) pm (.ref c') ctv) ⟨[], []⟩ = pure [])
    (bd : Room k (A.deeper (lamEnv X scope s1.heap.objs.size f c')) → PE (lamCx X A outer s1 HZ E scope f c') body tb) (ht : tb σ HZ Q) :
    codeAny (model X.prog X.w) A (.call (.ref f) ⟨[], []⟩) (CR (L2.CX X.prog X.w) outer X.prog X.w HZ s1 Q E) s1 := by
  have lim : s1.heap.NoLimit := e0.mod.nolimit.keeps fun b o e => (e0.bs b o e).1
  obtain ⟨⟨oc, vs, t, g1, g2, g3⟩, _, _⟩ := (show ObjOk X.prog X.w HZ s1.heap c' (CodeO c' (lamName X)) from e0.hok c' _ hc)
  apply PySem.W.kla_callFunE hr.depth of rfl L.co L.gen rfl ⟨c', oc, vs, t, rfl, g1, g2, g3⟩
  rw [nb]
  apply wpAny_pure
  apply wpAny_newFunctionEnv (fun y hy => (L.own y hy).2) (fun y hy => absurd hy (by simp)) _ L.kind
  intro h₁ hns hsb
  refine ⟨lim.fresh _ hsb, ?_⟩
  have kp : ∀ b o, s1.heap.get? b = some o → h₁.get? b = some o := by
    intro b o e
    exact hsb.extBut b o (Nat.ne_of_lt (Heap.lt_size e)) (Heap.get?_push_of_some _ e)
  have J := lam_start2 (f := f) (c' := c') (tk := s1.toks + ([] : List (Str × Value)).length) (E := E) I L e0 hr.hd un hns kp
  apply PySem.W.kla_codeExpr
  apply wpAny_mono ((bd (hr.deeper _)).run [] _ _ HZ Q J ht)
  · rintro v s' ⟨w', H', J', rv, q⟩
    exact ⟨w', H', J'.os, J'.bare, J'.base, J'.hok, rv, q⟩
  · exact fun _ _ z => z
/-- a(), in the def that got it -/
theorem pe_ask {CXg : CXT} {Eg : XK} {Ng : List Str} {qg : Str} {sg : Scope} {g f c' : Addr} {cdg pm ctv : Value} {params : Arguments} {body : Expr} {scope : Scope} {k i : Nat} {a : Str} {pn : List (Addr × Obj)} {xe : Value → Shared → Prop} {W : WX} {tb : XK → TE} {p1 p2 : Pos}
    (I : Inv X pins σ H s) (L : LamS X.env.scope scope) (hf : s.heap.get? f = some (lamObj X params body scope pm c' ctv)) (hfn : H f = none) (hfr : f ∉ frs X.stack)
    (nb : bindArgs (PySem.W.kla_fn "<lambda>" (lamName X) params body scope (cloFrom X.env.cells scope.names []) pm (.ref c') ctv) ⟨[], []⟩ = pure [])
    (tk : Takes ((cxOf CXg X.prog X.w X.K X.mg X.base Ng qg sg g cdg X.A X.stack s H Eg).tr pn xe) W) (hr : Room (k + 1) (X.A.deeper (envOfC qg sg s.heap.objs.size g cdg)))
    (bd : ∀ (E : XK) (A : Around) (outer : List Env) (s : Shared) (H : Hp), Room k (A.deeper (lamEnv X scope s.heap.objs.size f c')) → PE (lamCx X A outer s H E scope f c') body (tb E))
    (hN : Ng[i]? = some a) (hv : Vis sg a) (hd : (a == ("__debug__" : Str)) = false := by decide) (hcd : (a == ("__classdict__" : Str)) = false := by decide) :
    PE ((cxOf CXg X.prog X.w X.K X.mg X.base Ng qg sg g cdg X.A X.stack s H Eg).tr pn xe) (.Call (.Name a p1) [] [] p2)
      (fun σZ HZ Q => σZ[i]? = some (some (.ref f)) ∧ HZ c' = some (CodeO c' (lamName X)) ∧ tb (fun cls d H' => W cls d σZ H') σ HZ Q) := by
  constructor
  rintro pZ sZ σZ HZ Q IZ ⟨hs, hc, ht⟩
  apply wpAny_Call_Name_kw
  apply thn ((pe_var (pos := p1) (i := i) hN hv hd hcd).run pZ sZ σZ HZ (fun v H1 => v = .ref f ∧ H1 = HZ) IZ ⟨.ref f, hs, rfl, rfl⟩)
  rintro u s1 ⟨v, H1, I1, r1, rfl, rfl⟩
  obtain rfl : u = Value.ref f := r1
  have un : Un (frs X.stack) [] H H1 s.heap s1.heap := I1.base
  have of1 := un.keep f _ hf hfn hfr (fun z => nomatch (show f ∈ ([] : List Addr) from z))
  apply PySem.W.callWith_F0 ⟨_, _, _, _, of1⟩
  have rc := lam_runs (E := fun cls d H' => W cls d σZ H') (Q := Q) I L of1 un I1.env0 hr hc nb (fun h => bd _ _ _ _ _ h) ht
  apply wpAny_call
  apply codeAny_mono rc
  intro r s' hq
  match r, hq with
  | .error e, hq => exact passAt tk σZ pZ H1 s1 e s' I1 hq
  | .ok .next, hq => exact hq.elim
  | .ok .brk, hq => exact hq.elim
  | .ok .cont, hq => exact hq.elim
  | .ok (.ret w), hq => exact I1.after hq
/-- what a def makes of the lambda that it calls as a: TT, from the lambda's reading -/
def Asks (X : Cx) (Ng : List Str) (x : Str) (sg : Scope) (g : Addr) (cdg : Value) (bg : List Stmt) (a : Str) (q : Str) (TT : (XK → Hp → VK → Prop) → Hp → VK → Prop) : Prop :=
  ∀ (f c' : Addr) (s : Shared) (H : Hp) (Q : VK) (tl : XK → Hp → VK → Prop),
    (∀ (W : WX) (pn : List (Addr × Obj)) (xe : Value → Shared → Prop) (p1 p2 : Pos), Takes ((cxOf C8.CX0 X.prog X.w X.K X.mg X.base Ng x sg g cdg X.A X.stack s H C8.E0).tr pn xe) W →
      PE ((cxOf C8.CX0 X.prog X.w X.K X.mg X.base Ng x sg g cdg X.A X.stack s H C8.E0).tr pn xe) (.Call (.Name a p1) [] [] p2) (fun σZ HZ Q => σZ[0]? = some (some (.ref f)) ∧ HZ c' = some (CodeO c' q) ∧ tl (fun cls d H' => W cls d σZ H') HZ Q)) →
    H c' = some (CodeO c' q) → TT tl H Q →
    ∃ t, PSs (cxOf C8.CX0 X.prog X.w X.K X.mg X.base Ng x sg g cdg X.A X.stack s H C8.E0).nox bg t ∧ t { nx := fun _ H' => Q .non H', rt := Q } (L2.start Ng [.ref f]) H
/-- x(lambda: body) -/
theorem pe_asks {T : List (Addr × Str)} {TT : (XK → Hp → VK → Prop) → Hp → VK → Prop} {x a : Str} {g c P : Addr} {k : Nat} {pg : Arguments} {bg : List Stmt} {sg : Scope} {dV kV doc pm cdv ct oc : Value} {an od : Option Addr} {osl : Array (Option Value)} {Ng : List Str}
    {params : Arguments} {body : Expr} {scope : Scope} {t : XK → TE} {p lpos pos : Pos} (hg : Gl X x) (hm : X.mg x = some (.ref g)) (hk : PySem.W.keepIn X.K (.ref g) = true)
    (lk : X.K.lookup g = some ⟨oc, od, .func (PySem.W.fnOf x x pg bg sg dV kV doc pm an cdv ct), osl⟩) (hcg : PySem.W.codeIn X.K cdv x = true) (hb : L2.Binds X.K (PySem.W.fnOf x x pg bg sg dV kV doc pm an cdv ct) [a] []) (Sg : FnScope Ng [a] sg) (hNg : Ng[0]? = some a) (hva : Vis sg a)
    (hG : Asks X Ng x sg g cdv bg a (lamName X) TT)
    (TB : TabB X.base X.mg c P) (hcode : X.env.code = .ref c) (hmT : (P, lamName X) ∈ T) (hu : ∀ p ∈ T, p.1 = P → p.2 = lamName X) (hr : Room (k + 2) X.A) (L : LamS X.env.scope scope) (hdef : defaultsOf params X.env = ([], []))
    (nb : ∀ (q : Str) (cl : List (Str × Addr)) (pm cv ctv : Value), bindArgs (PySem.W.kla_fn "<lambda>" q params body scope cl pm cv ctv) ⟨[], []⟩ = pure [])
    (bd : ∀ (A : Around) (outer : List Env) (s : Shared) (H : Hp) (E : XK) (f c' : Addr), Room k (A.deeper (lamEnv X scope s.heap.objs.size f c')) → PE (lamCx X A outer s H E scope f c') body (t E))
    (hdb : (x == ("__debug__" : Str)) = false := by decide) (hd : (a == ("__debug__" : Str)) = false := by decide) (hcd : (a == ("__classdict__" : Str)) = false := by decide) :
    PE X (.Call (.Name x p) [.Lambda params body scope lpos] [] pos) (tLam T TT t) := by
  constructor
  rintro pins s σ H Q I ⟨hT, h⟩
  apply wpAny_Call_Name_kw
  apply ld_glob I hg hm _ hdb
  refine PySem.W.callWith_K (h₀ := X.base) I.ok.mod.kin hk ?_ (by rfl) (by rfl)
  show wpAny _ _ (spliced ((false, eval (.Lambda params body scope lpos) X.env) :: backTo pos (starEach [] X.env))) _ _ s
  apply Calls.spliced_cons
  apply lam_make2 I TB hcode hmT hu hT hdef (L.has I.ok)
  intro f c' pm' ctv H1 s' I1 eN T1 hf hfn hfr hco
  refine Calls.spliced_nil ⟨I1.kIn, ?_⟩
  have rc : codeAny (model X.prog X.w) X.A (.call (.ref g) ⟨[.ref f], []⟩) (CR C8.CX0 X.stack X.prog X.w H1 s' Q C8.E0) s' := by
    refine run_ofS (N := Ng) (ps := [a]) (us := [.ref f]) (vs := [.ref f]) lk hcg Sg hr I1.env0 (hb s' [.ref f] I1.kIn rfl) (.cons rfl .nil) rfl fun hr' => ?_
    obtain ⟨t', ht', hq'⟩ := hG f c' s' H1 Q (fun E H' Q' => t E σ H' Q') (fun W pn xe p1 p2 tk => pe_ask (i := 0) (tb := t) I1 L hf hfn hfr (nb _ _ _ _ _) tk hr' (fun E A outer s H hr2 => bd A outer s H E f c' hr2) hNg hva hd hcd) hco (h H1 eN T1)
    exact ⟨t', ht'.nox, hq'⟩
  apply wpAny_call
  apply codeAny_mono rc
  intro r s2 hq
  match r, hq with
  | .error e, hq => exact (show False from hq).elim
  | .ok .next, hq => exact hq.elim
  | .ok .brk, hq => exact hq.elim
  | .ok .cont, hq => exact hq.elim
  | .ok (.ret w), hq => exact I1.after hq
end
end G

namespace G

/-! ### fractions in least terms -/
/-- what both are divided by -/
def byOf (n u : Int) : Int := if u < 0 then -((Nat.gcd n.natAbs u.natAbs : Nat) : Int) else ((Nat.gcd n.natAbs u.natAbs : Nat) : Int)
def rNum (n u : Int) : Int := n.fdiv (byOf n u)
def rUnd (n u : Int) : Int := u.fdiv (byOf n u)
structure Red (n u : Int) : Prop where
  pos : 0 < u
  one : Nat.gcd n.natAbs u.natAbs = 1
theorem g_pos {n u : Int} (h : u ≠ 0) : 0 < Nat.gcd n.natAbs u.natAbs := Nat.gcd_pos_of_pos_right _ (by omega)
theorem byOf_ne {n u : Int} (h : u ≠ 0) : byOf n u ≠ 0 := by
  have := g_pos (n := n) h
  unfold byOf
  split <;> omega
theorem byOf_abs {n u : Int} : (byOf n u).natAbs = Nat.gcd n.natAbs u.natAbs := by
  unfold byOf
  split <;> omega
theorem byOf_le {n u : Int} (h : u ≠ 0) : (byOf n u).natAbs ≤ u.natAbs := by
  rw [byOf_abs]
  exact Nat.le_of_dvd (by omega) (Nat.gcd_dvd_right _ _)
theorem byOf_num {n u : Int} : byOf n u ∣ n := by
  rw [← Int.natAbs_dvd_natAbs, byOf_abs]
  exact Nat.gcd_dvd_left _ _
theorem byOf_und {n u : Int} : byOf n u ∣ u := by
  rw [← Int.natAbs_dvd_natAbs, byOf_abs]
  exact Nat.gcd_dvd_right _ _
theorem fd_of {c n : Int} (hc : c ≠ 0) (h : c ∣ n) : c * n.fdiv c = n := by
  rw [Int.fdiv_eq_ediv_of_dvd h]
  exact Int.mul_ediv_cancel' h
theorem num_mul {n u : Int} (h : u ≠ 0) : byOf n u * rNum n u = n := fd_of (byOf_ne h) byOf_num
theorem und_mul {n u : Int} (h : u ≠ 0) : byOf n u * rUnd n u = u := fd_of (byOf_ne h) byOf_und
theorem red_of {n u : Int} (h : u ≠ 0) : Red (rNum n u) (rUnd n u) := by
  have h1 := num_mul (n := n) h
  have h2 := und_mul (n := n) h
  have hg := g_pos (n := n) h
  constructor
  · by_cases hu : u < 0
    · have e : byOf n u < 0 := by
        unfold byOf
        rw [if_pos hu]
        omega
      rcases Int.lt_trichotomy (rUnd n u) 0 with z | z | z
      · have := Int.mul_pos_of_neg_of_neg e z
        omega
      · rw [z, Int.mul_zero] at h2
        omega
      · exact z
    · have e : 0 < byOf n u := by
        unfold byOf
        rw [if_neg hu]
        omega
      rcases Int.lt_trichotomy (rUnd n u) 0 with z | z | z
      · have := Int.mul_neg_of_pos_of_neg e z
        omega
      · rw [z, Int.mul_zero] at h2
        omega
      · exact z
  · have e1 : n.natAbs = Nat.gcd n.natAbs u.natAbs * (rNum n u).natAbs := by
      have := congrArg Int.natAbs h1
      rw [Int.natAbs_mul, byOf_abs] at this
      exact this.symm
    have e2 : u.natAbs = Nat.gcd n.natAbs u.natAbs * (rUnd n u).natAbs := by
      have := congrArg Int.natAbs h2
      rw [Int.natAbs_mul, byOf_abs] at this
      exact this.symm
    have e3 : Nat.gcd n.natAbs u.natAbs = Nat.gcd n.natAbs u.natAbs * Nat.gcd (rNum n u).natAbs (rUnd n u).natAbs := by
      rw [← Nat.gcd_mul_left, ← e1, ← e2]
    exact Nat.eq_of_mul_eq_mul_left hg (by omega)
theorem Red.same {n u : Int} (r : Red n u) : rNum n u = n ∧ rUnd n u = u := by
  have e : byOf n u = 1 := by
    unfold byOf
    rw [r.one, if_neg (by have := r.pos; omega)]
    rfl
  unfold rNum rUnd
  rw [e]
  exact ⟨Int.fdiv_one _, Int.fdiv_one _⟩
theorem Red.neg {n u : Int} (r : Red n u) : Red (-n) u := ⟨r.pos, by rw [Int.natAbs_neg]; exact r.one⟩
theorem Red.abs {n u : Int} (r : Red n u) : Red (if n < 0 then -n else n) u := by
  split
  · exact r.neg
  · exact r
theorem red_int (n : Int) : Red n 1 := ⟨by decide, by rw [show (1 : Int).natAbs = 1 from rfl, Nat.gcd_one_right]⟩
theorem num_le {n u : Int} (h : u ≠ 0) : (rNum n u).natAbs ≤ n.natAbs := by
  have h1 := num_mul (n := n) h
  have hg := g_pos (n := n) h
  have := congrArg Int.natAbs h1
  rw [Int.natAbs_mul, byOf_abs] at this
  rw [← this]
  exact Nat.le_mul_of_pos_left _ hg
theorem und_le {n u : Int} (h : u ≠ 0) : (rUnd n u).natAbs ≤ u.natAbs := by
  have h1 := und_mul (n := n) h
  have hg := g_pos (n := n) h
  have := congrArg Int.natAbs h1
  rw [Int.natAbs_mul, byOf_abs] at this
  rw [← this]
  exact Nat.le_mul_of_pos_left _ hg
/-- one step of the law's own greatest common divisor -/
theorem gcd_step {a b : Int} (ha : 0 ≤ a) (hb : 0 < b) : Nat.gcd b.natAbs (a.fmod b).natAbs = Nat.gcd a.natAbs b.natAbs := by
  rw [Int.fmod_eq_emod_of_nonneg a (by omega)]
  obtain ⟨m, rfl⟩ := Int.eq_ofNat_of_zero_le ha
  obtain ⟨k, rfl⟩ := Int.eq_ofNat_of_zero_le (Int.le_of_lt hb)
  show Nat.gcd k ((m : Int) % (k : Int)).natAbs = Nat.gcd m k
  rw [show ((m : Int) % (k : Int)).natAbs = m % k by omega, Nat.gcd_comm k, ← Nat.gcd_rec, Nat.gcd_comm]
end G

namespace G
open PySem PySem.Spec PyProof.Rows L2 PySem.Calls

/-! ### abs and repr of instances; repr of longer data -/
section
variable {prog : Program} {w : World} {A : Around} {E : Value → Shared → Prop} {s : Shared} {K : PySem.W.Frag} {x C f : Addr} {ox : Obj} {od : Option Obj}
theorem abs_K {Q : Value → Shared → Prop} (X : K.In s.heap) (I : PySem.W.InstAt s.heap x ox C od) (hs : PySem.W.findIn K (.ref C) "__abs__" = some (some (.ref f))) (hf : PySem.W.isFn K (.ref f) = true)
    (h : wpAny (model prog w) A.in1 (call (.ref f) [.ref x]) Q E s) : wpAny (model prog w) A (call (.builtin "abs") [.ref x]) Q E s := by
  apply call_function_entry kind_abs plain_abs entry_abs (args_abs _)
  unfold Builtin.«abs»
  refine wpAny_bind (m := oneArg "abs" _) (wpAny_pure ?_)
  refine wpAny_bind (m := callSpecial? (.ref x) (Str.ofString "__abs__")) (PySem.W.special_fn X I hs (beq_iff_eq.mp hf) (wpAny_mono h (fun v s' z => ?_) fun _ _ y => y))
  exact wpAny_pure ⟨_, rfl, z⟩
end
section
variable {X : Cx} {CX : CXT} {n : Nat} {C f : Addr} {sp : Sp} {E : XK}
/-- abs(x), repr(x) of an instance -/
def rOneK (C : Addr) (sp : Sp) (E : XK) : List V → Hp → VK → Prop := fun xs H Q => ∃ a dx fs, xs = [.ref a] ∧ H a = some (.ins C dx fs) ∧ sp [.ref a] H Q E
theorem call_absK (hs : PySem.W.findIn X.K (.ref C) "__abs__" = some (some (.ref f))) (hf : PySem.W.isFn X.K (.ref f) = true) (F : FnR X.prog X.w X.K X.mg X.base CX n f sp) (hr : Room (n + 1) X.A) (hx : Passes CX X E) :
    CallR X (.builtin "abs") (rOneK C sp E) := by
  intro pins s σ H xs us Q I r h
  obtain ⟨a, dx, fs, rfl, ha, q⟩ := h
  obtain ⟨u, rfl, ru⟩ := vals1 r
  cases (show u = Value.ref a from ru)
  obtain ⟨od, mA, J, _⟩ := ins_inst I ha
  have hr1 : Room n X.A.in1 := Room.in1 hr
  exact abs_K I.kIn J hs hf (wpAny_call (SlX.run_at (us := [.ref a]) (ws := [.ref a]) F hr1 I.env0.in1 hx I (.cons rfl .nil) q))
theorem call_reprK (hs : PySem.W.findIn X.K (.ref C) "__repr__" = some (some (.ref f))) (hf : PySem.W.isFn X.K (.ref f) = true) (F : FnR X.prog X.w X.K X.mg X.base CX n f sp) (hr : Room (n + 1) X.A) (hx : Passes CX X E) :
    CallR X (.builtin "repr") (fun xs H Q => ∃ a dx fs, xs = [.ref a] ∧ H a = some (.ins C dx fs) ∧ sp [.ref a] H (fun v H' => ∃ t, v = .str t ∧ Q v H') E) := by
  intro pins s σ H xs us Q I r h
  obtain ⟨a, dx, fs, rfl, ha, q⟩ := h
  obtain ⟨u, rfl, ru⟩ := vals1 r
  cases (show u = Value.ref a from ru)
  obtain ⟨od, mA, J, _⟩ := ins_inst I ha
  obtain ⟨m, hF⟩ := I.fr
  have hr1 : Room n X.A.in1 := Room.in1 hr
  refine PySem.W.repr_K hr1.units0 hF I.ok.mod.kin J hs hf (wpAny_mono (wpAny_call (SlX.run_at (us := [.ref a]) (ws := [.ref a]) F hr1 I.env0.in1 hx I (.cons rfl .nil) q)) (fun v s' z => ?_) fun _ _ y => y)
  obtain ⟨z, H', I', rz, t, rfl, q'⟩ := z
  obtain ⟨tk, e⟩ := (show ∃ tk, v = Value.str t tk from rz)
  cases e
  exact ⟨.str t, H', I', ⟨tk, rfl⟩, q'⟩
/-- repr of data of any leaves, its length told -/
theorem call_reprL (hq : Quiet X.A) (hu : X.A.units + 64 < cLine) : CallR X (.builtin "repr") (fun xs H Q => ∃ v d, xs = [v] ∧ Da H v d ∧ d.showable = true ∧ d.depth ≤ 20 ∧ d.shown.length ≤ sizeLine ∧ Q (.str d.shown) H) := by
  intro pins s σ H xs us Q I r h
  obtain ⟨v, d, rfl, hd, hz, hk, fits, q⟩ := h
  obtain ⟨u, rfl, ru⟩ := vals1 r
  have tail : ∀ (A : Addr), u = .ref A → wpAny (model X.prog X.w) X.A (call (.builtin "repr") [u]) (EP X pins σ Q) X.xe s := by
    rintro a rfl
    obtain ⟨as, hr, hns⟩ := Da.reads I hd ru
    refine repr_of_reads' (h₀ := s.heap) hr hz (fun _ => hns) hq (by omega) (fun _ _ z => z) (fun h' t tk hk => ?_) fits
    exact ⟨.str d.shown, H, I.kept hk, ⟨_, rfl⟩, q⟩
  cases hd with
  | non => cases ru; exact P.repr_of_none ⟨.str _, H, I.tok _, ⟨_, rfl⟩, q⟩
  | bl b =>
    cases ru
    refine P.repr_of_bool ?_
    exact ⟨.str _, H, I.tok _, ⟨_, rfl⟩, q⟩
  | int i =>
    obtain ⟨t, rfl⟩ := ru
    have hz : i.natAbs.log2 < 1920 := by simpa [PyData.showable] using hz
    exact P.repr_of_int hz ⟨.str _, H, I.tok _, ⟨_, rfl⟩, q⟩
  | str x =>
    obtain ⟨t, rfl⟩ := ru
    exact P.repr_of_str ⟨.str _, H, I.tok _, ⟨_, rfl⟩, q⟩ fits
  | lst e n t => cases ru; exact tail _ rfl
  | tup e t => cases ru; exact tail _ rfl
  | dct e t => cases ru; exact tail _ rfl
end
end G

namespace G
open PySem PySem.Spec PyProof.Rows L2 SeqAt

/-! ### v == 0 of any data, dicts too -/
theorem dict_no_int (a : Addr) (xs : Array DictEntry) (k : Nat) (md : Option Addr) (zs : Array (Option Value)) (i : Int) (t : Tok) :
    Meets (Builtin.«dict.__eq__» ⟨[.ref a, .int i t], []⟩) (fun _ T st => st.heap.get? a = some { cls := .type "dict", dict := md, data := .dict xs k, slots := zs } ∧ T (.ok (.ret .notImplemented)) st) := by
  refine .of_wp fun prog w A T st z => ?_
  obtain ⟨z1, z2⟩ := z
  obtain ⟨hp, gn, dr, tk, os⟩ := st
  have no := PySem.F.sub_int_dict
  wp_walk using wpAny_loadPart' z1
  exact ⟨_, rfl, z2⟩
theorem int_no_dict (a : Addr) (xs : Array DictEntry) (k : Nat) (md : Option Addr) (zs : Array (Option Value)) (i : Int) (t : Tok) :
    Meets (Builtin.«int.__eq__» ⟨[.int i t, .ref a], []⟩) (fun _ T st => st.heap.get? a = some { cls := .type "dict", dict := md, data := .dict xs k, slots := zs } ∧ T (.ok (.ret .notImplemented)) st) := by
  refine .of_wp fun prog w A T st z => ?_
  obtain ⟨z1, z2⟩ := z
  obtain ⟨hp, gn, dr, tk, os⟩ := st
  wp_walk using wpAny_loadPart' z1, wpAny_load z1
  exact ⟨_, rfl, z2⟩
theorem rc_dict_int {A : Around} {st : Shared} {a : Addr} {o : Obj} {xs : Array DictEntry} {k : Nat} (i : Int) (t : Tok) (g : st.heap.get? a = some o) (c : o.cls = .type "dict") (dd : o.data = .dict xs k) (room : A.units < cLine) : RcAt A st (.ref a) (.int i t) false := fun prog w E Q q => by
  obtain ⟨oc, md, da, zs⟩ := o
  simp only at c dd
  subst c dd
  refine rc_eq_decline_or (k := false) ⟨_, g, rfl⟩ (typeIs_int st i t) (by decide) PySem.F.sub_int_dict PySem.F.slot_dict_eq PySem.F.slot_int_eq_refl ?_ ?_ ?_ (.inr room) q
  · exact fun T qT => call_meets PySem.F.slot_dict_eq ⟨_, g, rfl⟩ PySem.F.entry_dict_eq (PySem.F.args_dict_eq_2 _ _) (dict_no_int a xs k md zs i t) ⟨g, qT⟩
  · exact fun T qT => call_meets PySem.F.slot_int_eq_refl (typeIs_int st i t) PySem.F.entry_int_eq (PySem.F.args_int_eq_2 _ _) (int_no_dict a xs k md zs i t) ⟨g, qT⟩
  · exact fun T qT => wpAny_of_eq (rfl : isSame (.ref a) (.int i t) = pure false) qT
/-- whether data equal 0 -/
def zeroD : PyData → Bool
  | .int i => i == 0
  | .bool b => (if b then (1 : Int) else 0) == 0
  | _ => false
def rEq0 : R2 := fun x y H Q => ∃ d, y = .int 0 ∧ Da H x d ∧ Q (.bl (zeroD d)) H
theorem op_eq0 {X : Cx} (room : X.A.units + 64 < cLine) : OpR X (compareOp .Eq) rEq0 := by
  intro pins s σ H x y v u Q I rx ry h
  obtain ⟨d, rfl, hd, q⟩ := h
  obtain ⟨tk, rfl⟩ := (show ∃ tk, u = Value.int 0 tk from ry)
  have fin : ∀ b, zeroD d = b → EP X pins σ Q (.bool b) s := fun b e => ⟨.bl b, H, I, rfl, by rw [← e]; exact q⟩
  have room0 : X.A.units < cLine := by omega
  cases hd with
  | non => cases rx; exact RcAt.none_int 0 tk _ _ _ _ (fin _ rfl)
  | bl b => cases rx; exact RcAt.bool_int b 0 tk _ _ _ _ (fin _ rfl)
  | int i => obtain ⟨t, rfl⟩ := rx; exact RcAt.int_int i t 0 tk _ _ _ _ (fin _ rfl)
  | str x => obtain ⟨t, rfl⟩ := rx; exact RcAt.str_int x t 0 tk _ _ _ _ (fin _ rfl)
  | lst e n t =>
    cases rx
    obtain ⟨_, its, m, rv, ho⟩ := I.hok _ _ e
    exact RcAt.list_int 0 tk ⟨_, ho, rfl, _, rfl⟩ room0 _ _ _ _ (fin _ rfl)
  | tup e t =>
    cases rx
    obtain ⟨_, its, rv, ho⟩ := I.hok _ _ e
    exact RcAt.tuple_int 0 tk ho room0 _ _ _ _ (fin _ rfl)
  | dct e t =>
    cases rx
    obtain ⟨_, hs, vs, rel, o, es, ep, ho, hx, hd, _⟩ := I.hok _ _ e
    exact rc_dict_int 0 tk ho hx.1 hd room0 _ _ _ _ (fin _ rfl)
end G

namespace G
open PySem PySem.Spec PyProof.Rows L2 LamX

/-! ### the law's own call, where defs of the text make lambdas; entered while nothing shows itself -/
/-- an empty table of code objects -/
abbrev bareTab : Obj := { cls := .none, data := .fields #[] }
/-- the abstract heap at the entry: the script, if the text does not know it, and the tables -/
def atEntry (K : PySem.W.Frag) (a : Addr) (vs : List Value) (ns : List Int) (ts : List Addr) : Hp := fun b =>
  if b ∈ ts then some (.tbl #[]) else if b = a ∧ K.lookup a = none then some (.frz { cls := .type "list", data := .seq vs.toArray } (.lst (ns.map V.int))) else none
section
variable {K : PySem.W.Frag} {a b : Addr} {vs : List Value} {ns : List Int} {ts : List Addr}
theorem ae_tab (h : b ∈ ts) : atEntry K a vs ns ts b = some (.tbl #[]) := if_pos h
theorem ae_scr (h : a ∉ ts) (k : K.lookup a = none) : atEntry K a vs ns ts a = some (.frz { cls := .type "list", data := .seq vs.toArray } (.lst (ns.map V.int))) := (if_neg h).trans (if_pos ⟨rfl, k⟩)
theorem ae_off (h : b ∉ ts) (n : ¬ (b = a ∧ K.lookup a = none)) : atEntry K a vs ns ts b = none := (if_neg h).trans (if_neg n)
theorem ae_or : (b ∈ ts ∧ atEntry K a vs ns ts b = some (.tbl #[])) ∨ (b ∉ ts ∧ b = a ∧ K.lookup a = none ∧ atEntry K a vs ns ts b = some (.frz { cls := .type "list", data := .seq vs.toArray } (.lst (ns.map V.int)))) ∨ (b ∉ ts ∧ atEntry K a vs ns ts b = none) := by
  by_cases h1 : b ∈ ts
  · exact .inl ⟨h1, ae_tab h1⟩
  · by_cases h2 : b = a ∧ K.lookup a = none
    · exact .inr (.inl ⟨h1, h2.1, h2.2, (if_neg h1).trans (if_pos h2)⟩)
    · exact .inr (.inr ⟨h1, ae_off h1 h2⟩)
end
theorem lawCallT {P : Program} {w : World} {K : PySem.W.Frag} {mg mb : Str → Option Value} {k : Nat} {fa a : Addr} {cs : List (Addr × Addr)} {fd : FuncData} {x : Str} {sp : Sp} {s₁ : Shared} {vs : List Value} {ns : List Int}
    (KX : K.In s₁.heap) (glob : s₁.heap.Ns mainGlobals mg) (bltn : s₁.heap.Ns builtinsNs mb) (boot : ∀ x : Str, x ≠ "__name__" → mb x = bootBuiltins x) (lim : s₁.heap.NoLimit) (gens : s₁.gens = #[])
    (mods : ∃ (bm : Addr) (ob : Obj), mg "__builtins__" = some (.ref bm) ∧ bm ≠ builtinsNs ∧ s₁.heap.get? bm = some ob ∧ ob.cls = .type "module" ∧ ob.dict = some builtinsNs ∧ ob.data = .plain)
    (bare : ∀ p ∈ cs, s₁.heap.get? p.2 = some bareTab) (noK : ∀ p ∈ cs, K.lookup p.2 = none) (code : ∀ p ∈ cs, PySem.W.CodeHd s₁.heap p.1 p.2)
    (obj : s₁.heap.get? a = some { cls := .type "list", data := .seq vs.toArray }) (nums : IntsAre vs ns) (short : ns.length ≤ sizeLine) (room : Room k callerA)
    (F : ∀ base : Heap, K.In base → base.Ns mainGlobals mg → (∀ p ∈ cs, TabB base mg p.1 p.2) → Fn P w K mg base CX0 k fa fd [x] sp) (bind : ∀ (s : Shared) (u : Value), BindsTo s fd ⟨[u], []⟩ [(x, u)])
    (told : ∀ H : Hp, (∀ p ∈ cs, H p.2 = some (.tbl #[])) → SqL K H a (ns.map V.int) → sp [.ref a] H (fun v _ => v = .bl true) fun _ _ _ => False) :
    codeAny (model P w) callerA (.call (.ref fa) ⟨[.ref a], []⟩) (fun r s' => r = .ok (.ret (.bool true)) ∧ OldK s₁.heap s'.heap ∧ s'.os = s₁.os ∧ AllBare s'.gens) s₁ := by
  have rv := vals_ints nums
  have lenV := nums.length
  let ts : List Addr := cs.map (·.2)
  let H : Hp := atEntry K a vs ns ts
  have inT : ∀ p ∈ cs, p.2 ∈ ts := fun p hp => List.mem_map.mpr ⟨p, hp, rfl⟩
  have tabT : ∀ b ∈ ts, s₁.heap.get? b = some bareTab := fun b hb => by
    obtain ⟨p, hp, rfl⟩ := List.mem_map.mp hb
    exact bare p hp
  have aT : a ∉ ts := fun z => by
    have q := (tabT a z).symm.trans obj
    cases q
  have offK : ∀ {b : Addr} {o : Obj}, K.lookup b = some o → H b = none := fun {b o} e => by
    rcases ae_or (K := K) (a := a) (b := b) (vs := vs) (ns := ns) (ts := ts) with ⟨h, _⟩ | ⟨_, rfl, n, _⟩ | ⟨_, z⟩
    · obtain ⟨p, hp, rfl⟩ := List.mem_map.mp h
      rw [noK p hp] at e
      cases e
    · rw [n] at e
      cases e
    · exact z
  -- what is neither a list nor an empty table is not hidden
  have off : ∀ {b : Addr} {o : Obj}, s₁.heap.get? b = some o → (∀ its n, o.data ≠ .seq its n) → o.data ≠ .fields #[] → H b = none := fun {b o} e h1 h2 => by
    rcases ae_or (K := K) (a := a) (b := b) (vs := vs) (ns := ns) (ts := ts) with ⟨h, _⟩ | ⟨_, rfl, _, _⟩ | ⟨_, z⟩
    · obtain rfl := Option.some.inj (e.symm.trans (tabT b h))
      exact absurd rfl h2
    · obtain rfl := Option.some.inj (e.symm.trans obj)
      exact absurd rfl (h1 _ _)
    · exact z
  have offD : ∀ {b : Addr} {o : Obj} {es : Array DictEntry} {ep : Nat}, s₁.heap.get? b = some o → o.data = .dict es ep → H b = none := fun e d => off e (fun _ _ z => by rw [d] at z; cases z) fun z => by rw [d] at z; cases z
  have hok : HOk P w H s₁.heap := fun b u z => by
    rcases ae_or (K := K) (a := a) (b := b) (vs := vs) (ns := ns) (ts := ts) with ⟨h, e⟩ | ⟨_, rfl, _, e⟩ | ⟨_, e⟩
    · obtain rfl := Option.some.inj (e.symm.trans z)
      exact tabT b h
    · obtain rfl := Option.some.inj (e.symm.trans z)
      exact ⟨obj, by rw [List.length_map]; exact short, vs, _, rv, obj⟩
    · exact absurd (e.symm.trans z) (by simp)
  have seq : SqL K H a (ns.map V.int) := by
    cases hk : K.lookup a with
    | none => exact .inl (.inr ⟨_, ae_scr aT hk⟩)
    | some o =>
      obtain rfl := Option.some.inj ((KX a o hk).symm.trans obj)
      exact .inr ⟨_, vs.toArray, _, hk, rfl, rfl, rfl, by rw [List.size_toArray, lenV]; exact short, by simpa using rv⟩
  have ns0 : ∀ {b : Addr} {m : Str → Option Value}, s₁.heap.Ns b m → (hidT s₁.heap H).Ns b m := by
    rintro b m ⟨o, es, ep, e, d, r⟩
    exact ⟨o, es, ep, hidT_get e (offD e d), d, r⟩
  have in0 : K.In (hidT s₁.heap H) := fun b o e => hidT_get (KX b o e) (offK e)
  have M : Mod K mg (hidT s₁.heap H) := by
    obtain ⟨mc, l1, l2⟩ := lim
    exact ⟨in0, ns0 glob, ⟨mb, ns0 bltn, boot⟩, ⟨mc, ns0 l1, l2⟩⟩
  obtain ⟨og, eg, pg, gg, dg, _⟩ := id glob
  have TB : ∀ p ∈ cs, TabB (hidT s₁.heap H) mg p.1 p.2 := fun p hp => by
    have hp0 := bare p hp
    refine ⟨?cd, ?bm, fun z => ?_⟩
    case cd =>
      obtain ⟨o, us, f1, f2, f3, f4, f5, f6, f7, e, c1, c2, c3, rest⟩ := code p hp
      refine ⟨o, us, f1, f2, f3, f4, f5, f6, f7, hidT_get e (off e (fun _ _ z => ?_) fun z => ?_), c1, c2, c3, rest⟩
      · rw [c2] at z
        cases z
      · rw [c2] at z
        obtain rfl := Data.fields.inj z
        simp at c3
    case bm =>
      obtain ⟨bm, ob, m1, m2, m3, m4, m5, m6⟩ := mods
      refine ⟨bm, ob, m1, m2, fun z => ?_, fun z => ?_, hidT_get m3 (off m3 (fun _ _ z => by rw [m6] at z; cases z) fun z => by rw [m6] at z; cases z), m4, m5, m6⟩
      · rw [z, gg] at m3
        obtain rfl := Option.some.inj m3
        rw [dg] at m6
        cases m6
      · rw [z, hp0] at m3
        obtain rfl := Option.some.inj m3
        cases m6
    · rw [z, hp0] at gg
      obtain rfl := Option.some.inj gg
      cases dg
  have nof : ∀ b : Addr, ¬ b ∈ frs ([] : List Env) := fun b z => nomatch (show b ∈ ([] : List Addr) from z)
  have e0 : Env0 P w K mg (hidT s₁.heap H) callerA [] s₁ H := ⟨rfl, M, fun b o e => of_hidT e, Nat.le_of_eq (hidT_size _ _), trivial, fun b hb => absurd hb (nof b), hok, .of_eq gens⟩
  refine codeAny_mono ((F _ in0 (ns0 glob) TB).run callerA [] s₁ H ⟨[.ref a], []⟩ [.ref a] [.ref a] _ _ rfl room e0 (bind s₁ (.ref a)) (.cons rfl .nil) (told H (fun p hp => ae_tab (inT p hp)) seq)) ?_
  intro r s' h
  match r, h with
  | .error e, h => exact h.elim
  | .ok .next, h => exact h.elim
  | .ok .brk, h => exact h.elim
  | .ok .cont, h => exact h.elim
  | .ok (.ret u), h =>
    obtain ⟨v, H', os, allb, un, hok', ru, rfl⟩ := h
    obtain rfl : u = Value.bool true := ru
    -- an object that is no table is as it was
    have kept : ∀ b o, b ∉ ts → s₁.heap.get? b = some o → s'.heap.get? b = some o := fun b o nb e => by
      rcases ae_or (K := K) (a := a) (b := b) (vs := vs) (ns := ns) (ts := ts) with ⟨h, _⟩ | ⟨_, rfl, _, z⟩ | ⟨_, z⟩
      · exact absurd h nb
      · have s1 := (hok b _ z).1
        have s2 := (hok' b _ (un.frzs b _ _ z)).1
        exact s2.trans (s1.symm.trans e)
      · exact un.keep b o e z (nof b) (fun z => nomatch z)
    have more : ∀ b ∈ ts, ∃ ext : Array Value, s'.heap.get? b = some { cls := .none, data := .fields ext } := fun b hb => by
      obtain ⟨ext, z⟩ := un.tbls b #[] (ae_tab hb)
      exact ⟨_, hok' b _ z⟩
    refine ⟨rfl, ⟨fun b o e => ?_, fun b o e => ?_⟩, os, allb⟩
    · by_cases hb : b ∈ ts
      · obtain ⟨p, hp, rfl⟩ := List.mem_map.mp hb
        obtain ⟨ext, z⟩ := more _ hb
        obtain rfl := Option.some.inj ((bare p hp).symm.trans e)
        refine .inr (.inl ⟨((code p hp).tab (bare p hp)).isCodeTable, rfl, #[], ext, rfl, ?_⟩)
        rw [Array.empty_append]
        exact z
      · exact .inl (kept b o hb e)
    · by_cases hb : b ∈ ts
      · obtain ⟨ext, z⟩ := more b hb
        exact ⟨_, z⟩
      · exact ⟨o, kept b o hb e⟩
/-- what is to be shown of the law at the head's heap -/
def LawT (P : Program) (w : World) (K : PySem.W.Frag) (k n : Nat) (x : Str) (mg : Str → Option Value) (fa : Addr) (h : Heap) : Prop :=
  ∃ (fd : FuncData) (cs : List (Addr × Addr)) (sp : Sp), (∀ p ∈ cs, h.get? p.2 = some bareTab ∧ K.lookup p.2 = none ∧ PySem.W.CodeHd h p.1 p.2) ∧ (∀ (s : Shared) (u : Value), BindsTo s fd ⟨[u], []⟩ [(x, u)]) ∧
    (∀ (H : Hp) (a : Addr) (ns : List Int), ns.length ≤ n → (∀ p ∈ cs, H p.2 = some (.tbl #[])) → SqL K H a (ns.map V.int) → sp [.ref a] H (fun v _ => v = .bl true) fun _ _ _ => False) ∧
    ∀ base : Heap, K.In base → base.Ns mainGlobals mg → (∀ p ∈ cs, TabB base mg p.1 p.2) → Fn P w K mg base CX0 k fa fd [x] sp
/-- the tables of a text's defs are empty at the law's entry -/
def Bare (mg : Str → Option Value) (h : Heap) (nm : Str) : Prop := ∃ f o fd c T, mg nm = some (.ref f) ∧ h.get? f = some o ∧ o.data = .func fd ∧ fd.code = .ref c ∧ PySem.W.CodeHd h c T ∧ h.get? T = some bareTab
theorem walkOfT {l : PySem.W.OpenLaw} {n k : Nat} {q : Program} {loose : List Str} {XP : (Str → Option Value) → Heap → Prop} {YP : World → Heap → Prop} {d : DefRec} {K : Params → PySem.W.Frag} {x : Str} {names : List Str}
    (hn : l.most = some n) (hn2 : n ≤ sizeLine) (hdf : d.params.defaults = []) (hr : Room k callerA) (hrec : (names.all fun nm => (recsOf q).any fun e => e.name == nm) = true) (hY : ∀ (w : World) (h : Heap), YP w h → (K w.params).In h)
    (F : ∀ (w : World) (mg : Str → Option Value) (fa : Addr) (h : Heap), (K w.params).In h → h.Ns mainGlobals mg → mg d.name = some (.ref fa) → (∀ nm ∈ names, Bare mg h nm) → LawT l.prog w (K w.params) k n x mg fa h) :
    PySem.W.WalkO q loose XP YP l.row.toRowW d [] (fun f vs => PySem.call f vs) := by
  apply Att.attach_call hn hdf
  intro w s₀ s₁ mg mb fa o pm cd doc a vs ns G Y ho hd hcd hmg hobj hints hlen hg
  have KX := hY w _ Y
  have tabs : ∀ nm ∈ names, Bare mg s₁.heap nm := fun nm hnm => by
    obtain ⟨r, hm, e⟩ := List.any_eq_true.mp (List.all_eq_true.mp hrec nm hnm)
    obtain ⟨f, o', fd', c, T, t1, t2, t3, t4, t5, t6⟩ := G.T.tab r hm
    rw [beq_iff_eq.mp e] at t1
    exact ⟨f, o', fd', c, T, t1, t2, t3, t4, PySem.W.CodeHd.of t5 t6, t6.2⟩
  obtain ⟨fd, cs, sp, facts, hb, told, hF⟩ := F w mg fa _ KX G.T.g hmg tabs
  exact lawCallT KX G.T.g G.T.b G.T.builtins G.T.nolimit hg G.T.bmain (fun p hp => (facts p hp).1) (fun p hp => (facts p hp).2.1) (fun p hp => (facts p hp).2.2) hobj hints (Nat.le_trans hlen hn2) hr hF hb fun H hH hS => told H a ns hlen hH hS
end G

namespace G
open PySem PySem.Spec PyProof.Rows L2 ClX

/-! ### a static method, called through its class -/
structure SMet (K : PySem.W.Frag) (C : Addr) (m : Str) (g : Addr) : Prop where
  rd : ∃ mc p rest, CRead K C mc ∧ PySem.W.findCls K (.ref C) mc m = some (.get (.builtin "staticmethod.__get__") (.ref p) .none (.ref C)) ∧ PySem.W.recIn K p "staticmethod" = some (.ref g :: rest)
  kp : PySem.W.keepIn K (.ref g) = true
/-- C.m(e, ..) -/
def tSMeth (C : Addr) (sp : Sp) (E : XK) (ta : TE) (t : TA) : TE := fun σ H Q => ta σ H fun x H1 => x = .ref C ∧ t σ H1 fun vs H2 => sp vs H2 Q E
section
variable {X : Cx} {CX : CXT} {k : Nat} {C g : Addr} {sp : Sp} {E : XK} {o e : Expr} {es : List Expr} {m : Str} {pos apos : Pos} {ta : TE} {t : TA} {pl : Sem Bool}
theorem pe_smeth (he : PE X o ta) (c : SMet X.K C m g) (F : FnR X.prog X.w X.K X.mg X.base CX k g sp) (hr : Room k X.A) (hx : Passes CX X E) (ha : PA X (e :: es) t)
    (hst : starEach (e :: es) X.env = (false, eval e X.env) :: starEach es X.env := by rfl) (hpl : (backTo pos (starEach es X.env)).any (·.1) = false := by rfl)
    (ht : eval (.Call (.Attribute o m apos) (e :: es) [] pos) X.env = (do
      let ov ← eval o X.env
      standAt apos.atName
      let (f, first) ← holding [ov] (getMethod ov m pl)
      callWith pos f first (backTo pos (starEach (e :: es) X.env)) (backToKw pos (keywordEach [] X.env))) := by rfl) :
    PE X (.Call (.Attribute o m apos) (e :: es) [] pos) (tSMeth C sp E ta t) := by
  constructor
  intro pins s σ H Q I h
  apply PySem.W.methodCall_KW (pl := pl) _ ht
  apply thn (he.run pins s σ H _ I h)
  rintro u s1 ⟨x, H1, I1, rx, rfl, q⟩
  cases (show u = Value.ref C from rx)
  obtain ⟨mc, p, rest, r, e1, e2⟩ := c.rd
  apply PySem.W.method_cls I1.kIn r.ga
  apply PySem.W.cls_bind I1.kIn r.rd e1
  apply wpAny_call
  apply PySem.W.sm_get (s := { s1 with toks := s1.toks + 1 }) I1.kIn e2
  apply PySem.W.handed_on rfl
  have I2 := I1.tok (s1.toks + 1)
  apply PySem.W.callWith_K (h₀ := X.base) (first := []) I2.ok.mod.kin c.kp _ hst hpl
  apply thn (ha.run pos pins _ σ H1 _ I2 q)
  rintro us s3 ⟨vs, H2, I3, rv, q2⟩
  exact ⟨I3.kIn, wpAny_call (run_fnR F hr hx I3 rv q2)⟩
end
end G

namespace G
open PySem SX NumText

/-! ### texts of numbers, by their signs -/
def dig (c : Nat) : Bool := decide (48 ≤ c) && decide (c ≤ 57)
/-- figures alone, one at least -/
def figs (l : List Nat) : Bool := !l.isEmpty && l.all dig
theorem figs_of {l : List Nat} (h : figs l = true) : l ≠ [] ∧ AllDigits l := by
  obtain ⟨h1, h2⟩ := Bool.and_eq_true_iff.mp h
  refine ⟨(fun z => by rw [z] at h1; exact absurd h1 (by simp)), fun c hc => ?_⟩
  have z := List.all_eq_true.mp h2 c hc
  obtain ⟨z1, z2⟩ := Bool.and_eq_true_iff.mp z
  exact ⟨of_decide_eq_true z1, of_decide_eq_true z2⟩
theorem figs_mk {l : List Nat} (h1 : l ≠ []) (h2 : AllDigits l) : figs l = true := by
  refine Bool.and_eq_true_iff.mpr ⟨?_, List.all_eq_true.mpr fun c hc => ?_⟩
  · cases l
    · exact absurd rfl h1
    · rfl
  · obtain ⟨a, b⟩ := h2 c hc
    exact Bool.and_eq_true_iff.mpr ⟨decide_eq_true a, decide_eq_true b⟩
theorem ascii_S (l : List Nat) : Txt.isascii (S l) = l.all (· < 128) := by
  unfold Txt.isascii
  simp [S]
theorem dig_uni {c : Nat} (h : c < 128) : Unicode.isDigit c = dig c := by
  have e := PySem.W.os_isdigit h
  have e2 : Txt.isdigit ⟨#[c]⟩ = Unicode.isDigit c := by
    unfold Txt.isdigit
    simp [Str.length]
  rw [← e2, e]
  rfl
theorem isdigit_S {l : List Nat} (h : l.all (· < 128) = true) : Txt.isdigit (S l) = figs l := by
  unfold Txt.isdigit figs
  have e1 : decide ((S l).length > 0) = !l.isEmpty := by
    rw [S_len]
    cases l <;> simp
  have e2 : (S l).cps.all Unicode.isDigit = l.all dig := by
    rw [← Array.all_toList]
    show l.all Unicode.isDigit = l.all dig
    have : ∀ m : List Nat, m.all (· < 128) = true → m.all Unicode.isDigit = m.all dig := by
      intro m
      induction m with
      | nil => intro _; rfl
      | cons c r ih =>
        intro hm
        obtain ⟨a, b⟩ := Bool.and_eq_true_iff.mp (show (decide (c < 128) && r.all (· < 128)) = true from hm)
        rw [List.all_cons, List.all_cons, ih b, dig_uni (of_decide_eq_true a)]
    exact this l h
  rw [e1, e2]
theorem figs_ascii {l : List Nat} (h : figs l = true) : l.all (· < 128) = true := List.all_eq_true.mpr fun c hc => by
  have := (figs_of h).2 c hc
  exact decide_eq_true (by omega)
theorem sub_dash (l : List Nat) : Builtin.Str.subAt (S l) (S [45]) 0 = decide (l.head? = some 45) := by
  rw [PySem.StrLaws.subAt_eq]
  show ((l.drop 0).take 1 == [45]) = _
  cases l with
  | nil => rfl
  | cons c r =>
    rw [List.drop_zero]
    show ([c] == [45]) = decide (some c = some 45)
    by_cases h : c = 45
    · rw [h]; rfl
    · have h1 : ([c] == [45]) = false := by simpa using h
      have h2 : decide (some c = some 45) = false := by simpa using h
      rw [h1, h2]
theorem starts_dash (l : List Nat) : Txt.startswith (S l) (S [45]) = decide (l.head? = some 45) := by
  unfold Txt.startswith
  rw [sub_dash, S_len, S_len]
  cases l with
  | nil => rfl
  | cons c r =>
    have : decide (0 + ([45] : List Nat).length ≤ (c :: r).length) = true := decide_eq_true (by simp)
    rw [this, Bool.true_and]
/-- without a dash ahead -/
def bare (l : List Nat) : List Nat := if l.head? = some 45 then l.tail else l
theorem strSub_S (l : List Nat) (i j : Nat) : Builtin.Str.strSub (S l) i j = S ((l.drop i).take (j - i)) := by
  refine TL.ext_tl ?_
  show ((S l).cps.extract i j).toList = (l.drop i).take (j - i)
  rw [Array.toList_extract]
theorem bare_S (l : List Nat) : Txt.removeprefix (S l) (S [45]) = S (bare l) := by
  unfold Txt.removeprefix bare
  rw [sub_dash]
  by_cases h : l.head? = some 45
  · rw [decide_eq_true h, if_pos rfl, if_pos h]
    cases l with
    | nil => cases h
    | cons c r =>
      show Txt.affix (S (c :: r)) (some ((S [45]).length, (S (c :: r)).length)) = S r
      unfold Txt.affix
      rw [S_len, S_len]
      have : ¬ ((c :: r).length - ([45] : List Nat).length == (c :: r).length) = true := by simp
      show (if ((c :: r).length - ([45] : List Nat).length == (c :: r).length) = true then S (c :: r) else Builtin.Str.strSub (S (c :: r)) ([45] : List Nat).length (c :: r).length) = S r
      rw [if_neg this, strSub_S]
      simp
  · rw [decide_eq_false h, if_neg h]
    rfl
/-- filled up with noughts to so many -/
def filled (k : Nat) (l : List Nat) : List Nat := List.replicate (k - l.length) 48 ++ l
theorem filled_len {k : Nat} {l : List Nat} (h : l.length ≤ k) : (filled k l).length = k := by
  unfold filled
  rw [List.length_append, List.length_replicate]
  omega
theorem zfill_S {l : List Nat} {k : Nat} (hf : figs l = true) (h : l.length ≤ k) : Txt.zfill (S l) (k : Int) = S (filled k l) := by
  unfold Txt.zfill
  rw [S_len]
  obtain ⟨ne, ad⟩ := figs_of hf
  by_cases e : (k : Int) ≤ (l.length : Int)
  · rw [if_pos e]
    unfold filled
    rw [show k - l.length = 0 by omega]
    rfl
  · rw [if_neg e]
    unfold zfilled filled
    have e2 : ((k : Int).toNat - l.length) = k - l.length := by omega
    rw [e2]
    cases l with
    | nil => exact absurd rfl ne
    | cons c r =>
      obtain ⟨c1, c2⟩ := ad.head
      have z : (S (c :: r)).cps[0]? = some c := rfl
      rw [z]
      have fin : Builtin.Str.padded (S (c :: r)) (k - (c :: r).length) 0 48 = S (List.replicate (k - (c :: r).length) 48 ++ c :: r) := by
        refine TL.ext_tl ?_
        show (Array.replicate (k - (c :: r).length) 48 ++ (S (c :: r)).cps ++ Array.replicate 0 48).toList = _
        simp [S]
      split
      · rename_i h43
        obtain rfl := Option.some.inj h43
        omega
      · rename_i h45
        obtain rfl := Option.some.inj h45
        omega
      · exact fin
theorem val_zeros : ∀ (k : Nat) (l : List Nat), digitsVal (List.replicate k 48 ++ l) = digitsVal l
  | 0, l => rfl
  | k + 1, l => by
    show List.foldl _ 0 _ = _
    rw [List.replicate_succ, List.cons_append, List.foldl_cons]
    exact val_zeros k l
theorem filled_val (k : Nat) (l : List Nat) : digitsVal (filled k l) = digitsVal l := val_zeros _ _
theorem filled_digits {k : Nat} {l : List Nat} (h : AllDigits l) : AllDigits (filled k l) := fun c hc => by
  rcases List.mem_append.mp hc with z | z
  · rw [(List.mem_replicate.mp z).2]
    exact ⟨by decide, by decide⟩
  · exact h c z
theorem int_filled {k : Nat} {l : List Nat} (hf : figs l = true) (hk : l.length ≤ k) (h1 : k ≤ 640) : intText? (S (filled k l)) = some ((digitsVal l : Nat) : Int) := by
  obtain ⟨ne, ad⟩ := figs_of hf
  have e := intText_digits (x := S (filled k l)) (filled_digits ad) (fun z => by
    have : (filled k l).length = 0 := by rw [show filled k l = [] from z]; rfl
    rw [filled_len hk] at this
    cases l
    · exact ne rfl
    · simp at hk; omega) (by rw [S_len, filled_len hk]; omega)
  rw [e]
  show some ((digitsVal (filled k l) : Nat) : Int) = _
  rw [filled_val]
theorem int_figs {l : List Nat} (hf : figs l = true) (hk : l.length ≤ 640) : intText? (S l) = some ((digitsVal l : Nat) : Int) := by
  obtain ⟨ne, ad⟩ := figs_of hf
  exact intText_digits (x := S l) ad ne (by rw [S_len]; omega)
theorem val_lt : ∀ (l : List Nat) (a : Nat), AllDigits l → l.foldl (fun acc c => acc * 10 + (c - 48)) a < (a + 1) * 10 ^ l.length
  | [], a, _ => by simp
  | c :: r, a, h => by
    obtain ⟨c1, c2⟩ := h.head
    have z := val_lt r (a * 10 + (c - 48)) h.tail
    rw [List.foldl_cons]
    refine Nat.lt_of_lt_of_le z ?_
    rw [List.length_cons, Nat.pow_succ, Nat.mul_comm (10 ^ r.length) 10, ← Nat.mul_assoc]
    exact Nat.mul_le_mul_right _ (by omega)
theorem digitsVal_lt {l : List Nat} (h : AllDigits l) : digitsVal l < 10 ^ l.length := by
  have z := val_lt l 0 h
  rw [Nat.zero_add, Nat.one_mul] at z
  exact z
/-! ### the text of an integer, of a fraction -/
theorem S_cat_of (t : String) : Str.ofString ("-" ++ t) = S [45] ++ Str.ofString t := by
  refine TL.ext_tl ?_
  rw [TL.tl_append, PySem.Str.ofString_eq_toList, PySem.Str.ofString_eq_toList]
  show (List.map Char.toNat ("-" ++ t).toList) = [45] ++ List.map Char.toNat t.toList
  rw [String.toList_append, List.map_append]
  rfl
def intL (i : Int) : List Nat := if i < 0 then 45 :: TL.numL i.natAbs else TL.numL i.natAbs
theorem int_L (i : Int) : Str.ofString (toString i) = S (intL i) := by
  unfold intL
  by_cases h : i < 0
  · rw [if_pos h]
    obtain ⟨n, rfl⟩ : ∃ n : Nat, i = Int.negSucc n := ⟨(-i - 1).toNat, by omega⟩
    have e : toString (Int.negSucc n) = "-" ++ toString (n + 1) := rfl
    rw [e]
    have e2 : Str.ofString ("-" ++ toString (n + 1)) = S [45] ++ Str.ofString (toString (((n + 1 : Nat)) : Int)) := by
      have t : toString (((n + 1 : Nat)) : Int) = toString (n + 1) := rfl
      rw [t, S_cat_of]
    rw [e2, num_S, S_cat]
    rfl
  · rw [if_neg h]
    obtain ⟨n, rfl⟩ := Int.eq_ofNat_of_zero_le (show 0 ≤ i by omega)
    exact num_S n
/-- n / u -/
def ratL (n u : Int) : List Nat := if u = 1 then intL n else intL n ++ 47 :: intL u
theorem numL_figs (n : Nat) : figs (TL.numL n) = true := figs_mk (TL.numL_ne n) (TL.numL_digits n)
theorem bare_int (n : Int) : bare (intL n) = TL.numL n.natAbs := by
  unfold bare intL
  by_cases h : n < 0
  · rw [if_pos h]
    rfl
  · rw [if_neg h, if_neg]
    intro z
    have hne := TL.numL_ne n.natAbs
    cases e : TL.numL n.natAbs with
    | nil => exact hne e
    | cons c r =>
      rw [e] at z
      obtain rfl := Option.some.inj (show some c = some 45 from z)
      have := TL.numL_digits n.natAbs 45 (by rw [e]; exact List.mem_cons_self ..)
      omega
theorem head_int (n : Int) : (decide ((intL n).head? = some 45) : Bool) = decide (n < 0) := by
  unfold intL
  by_cases h : n < 0
  · rw [if_pos h, decide_eq_true h]
    rfl
  · rw [if_neg h, decide_eq_false h]
    refine decide_eq_false fun z => ?_
    cases e : TL.numL n.natAbs with
    | nil => exact TL.numL_ne _ e
    | cons c r =>
      rw [e] at z
      obtain rfl := Option.some.inj (show some c = some 45 from z)
      have := TL.numL_digits n.natAbs 45 (by rw [e]; exact List.mem_cons_self ..)
      omega
theorem intL_mem {n : Int} {c : Nat} (h : c ∈ intL n) : c = 45 ∨ (48 ≤ c ∧ c ≤ 57) := by
  unfold intL at h
  split at h
  · rcases List.mem_cons.mp h with z | z
    · exact .inl z
    · exact .inr (TL.numL_digits _ c z)
  · exact .inr (TL.numL_digits _ c h)
theorem int_free {n : Int} {c : Nat} (h : c ≠ 45) (h2 : c < 48 ∨ 57 < c) : c ∉ intL n := fun z => by
  rcases intL_mem z with e | ⟨a, b⟩
  · exact h e
  · omega
/-- no nought ahead of another figure -/
theorem num_lead : ∀ (n : Nat), (TL.numL n).head? = some 48 → n = 0 := fun n => by
  induction n using Nat.strongRecOn with
  | ind n ih =>
    intro h
    by_cases hn : n < 10
    · rw [TL.numL_lt hn] at h
      have := Option.some.inj h
      omega
    · rw [TL.numL_step (by omega)] at h
      have hne := TL.numL_ne (n / 10)
      cases e : TL.numL (n / 10) with
      | nil => exact absurd e hne
      | cons c r =>
        rw [e, List.cons_append] at h
        have h' : (TL.numL (n / 10)).head? = some 48 := by rw [e]; exact h
        have := ih (n / 10) (by omega) h'
        omega
end G

namespace G
open PySem SX NumText

/-! ### texts of fractions: how they come apart -/
theorem split_at (c : Nat) (l : List Nat) : c ∉ l ∨ ∃ p q, l = p ++ c :: q ∧ c ∉ p := by
  by_cases h : c ∈ l
  · exact .inr (List.eq_append_cons_of_mem h)
  · exact .inl h
theorem part_none {c : Nat} {l : List Nat} (h : c ∉ l) : Txt.partition (S l) (S [c]) = (S l, S [], S []) := partition_none (by simp) (par_head_none h)
theorem part_some {c : Nat} {p q : List Nat} (h : c ∉ p) : Txt.partition (S (p ++ c :: q)) (S [c]) = (S p, S [c], S q) := partition_some (by simp) (par_head (sep := []) q h)
theorem spl_none {c : Nat} {l : List Nat} (h : c ∉ l) : TL.spl [c] 0 [] l = [l] := TL.spl_last1 h
theorem spl_some {c : Nat} {p q : List Nat} (h : c ∉ p) : TL.spl [c] 0 [] (p ++ c :: q) = p :: TL.spl [c] 0 [] q := TL.spl_part1 (S := []) h
theorem spl_ne (c : Nat) (l : List Nat) : TL.spl [c] 0 [] l ≠ [] := by
  rcases split_at c l with h | ⟨p, q, rfl, h⟩
  · rw [spl_none h]; simp
  · rw [spl_some h]; simp
theorem spl_one {c : Nat} {l a : List Nat} (h : TL.spl [c] 0 [] l = [a]) : l = a := by
  rcases split_at c l with n | ⟨p, q, rfl, n⟩
  · rw [spl_none n] at h
    exact (List.cons.inj h).1
  · rw [spl_some n] at h
    exact absurd (List.cons.inj h).2 (spl_ne c q)
theorem spl_two {c : Nat} {l a b : List Nat} (h : TL.spl [c] 0 [] l = [a, b]) : l = a ++ c :: b := by
  rcases split_at c l with n | ⟨p, q, rfl, n⟩
  · rw [spl_none n] at h
    exact absurd (List.cons.inj h).2 (by simp)
  · rw [spl_some n] at h
    obtain ⟨e1, e2⟩ := List.cons.inj h
    rw [e1, spl_one e2]
theorem spl_len (c : Nat) : ∀ (k : Nat) (l : List Nat), l.length ≤ k → (TL.spl [c] 0 [] l).length ≤ l.length + 1 ∧ ∀ w ∈ TL.spl [c] 0 [] l, w.length ≤ l.length := fun k => by
  induction k with
  | zero =>
    intro l hl
    have e : l = [] := List.length_eq_zero_iff.mp (by omega)
    subst e
    rw [TL.spl_nil]
    exact ⟨by simp, fun w hw => by rw [List.mem_singleton.mp hw]; exact Nat.le_refl _⟩
  | succ k ih =>
    intro l hl
    rcases split_at c l with n | ⟨p, q, rfl, n⟩
    · rw [spl_none n]
      exact ⟨by simp, fun w hw => by rw [List.mem_singleton.mp hw]; exact Nat.le_refl _⟩
    · rw [spl_some n]
      simp only [List.length_append, List.length_cons] at hl ⊢
      obtain ⟨h1, h2⟩ := ih q (by omega)
      refine ⟨by omega, fun w hw => ?_⟩
      rcases List.mem_cons.mp hw with e | e
      · rw [e]; omega
      · have := h2 w e; omega
/-- the text is that of a fraction -/
def IsRat (l : List Nat) (n u : Int) : Prop := Red n u ∧ l = ratL n u
theorem intL_pos {u : Int} (h : 0 < u) : intL u = TL.numL u.natAbs := if_neg (by omega)
theorem ratL_one (n : Int) : ratL n 1 = intL n := if_pos rfl
theorem ratL_two {n u : Int} (h : u ≠ 1) : ratL n u = intL n ++ 47 :: intL u := if_neg h
theorem no47 (n : Int) : (47 : Nat) ∉ intL n := int_free (by decide) (.inl (by decide))
theorem no32 (n : Int) : (32 : Nat) ∉ intL n := int_free (by decide) (.inl (by decide))
theorem rat32 (n u : Int) : (32 : Nat) ∉ ratL n u := by
  unfold ratL
  split
  · exact no32 n
  · intro z
    rcases List.mem_append.mp z with e | e
    · exact no32 n e
    · rcases List.mem_cons.mp e with e | e
      · omega
      · exact no32 u e
/-- without a stroke -/
theorem rat_plain {l : List Nat} {n u : Int} (h : IsRat l n u) (f : (47 : Nat) ∉ l) : u = 1 ∧ l = intL n := by
  obtain ⟨r, rfl⟩ := h
  by_cases e : u = 1
  · exact ⟨e, by rw [e, ratL_one]⟩
  · rw [ratL_two e] at f
    exact absurd (List.mem_append_right _ (List.mem_cons_self ..)) f
/-- with one -/
theorem rat_stroke {p q : List Nat} {n u : Int} (h : IsRat (p ++ 47 :: q) n u) (f : (47 : Nat) ∉ p) : u ≠ 1 ∧ p = intL n ∧ q = TL.numL u.natAbs := by
  obtain ⟨r, e⟩ := h
  by_cases e1 : u = 1
  · rw [e1, ratL_one] at e
    exact absurd (by rw [← e]; exact List.mem_append_right _ (List.mem_cons_self ..)) (no47 n)
  · rw [ratL_two e1] at e
    have z := (par_head (sep := []) q f).symm.trans ((congrArg (TL.par [47] []) e).trans (par_head (sep := []) (intL u) (no47 n)))
    injection z with z
    injection z with z1 z2
    exact ⟨e1, z1, by rw [z2, intL_pos r.pos]⟩
theorem intL_inj {a b : Int} (h : intL a = intL b) : a = b := by
  have h1 := bare_int a
  have h2 := bare_int b
  rw [h] at h1
  have e1 := TL.numL_inj (h1.symm.trans h2)
  have e2 := head_int a
  rw [h, head_int b] at e2
  have e3 : (b < 0) ↔ (a < 0) := by
    constructor
    · intro z; exact of_decide_eq_true (e2.symm.trans (decide_eq_true z))
    · intro z; exact of_decide_eq_true (e2.trans (decide_eq_true z))
  omega
theorem isRat_inj {l : List Nat} {n u m t : Int} (h : IsRat l n u) (h' : IsRat l m t) : n = m ∧ u = t := by
  rcases split_at 47 l with f | ⟨p, q, rfl, f⟩
  · obtain ⟨e1, e2⟩ := rat_plain h f
    obtain ⟨e3, e4⟩ := rat_plain h' f
    exact ⟨intL_inj (e2.symm.trans e4), by rw [e1, e3]⟩
  · obtain ⟨_, e1, e2⟩ := rat_stroke h f
    obtain ⟨_, e3, e4⟩ := rat_stroke h' f
    have := TL.numL_inj (e2.symm.trans e4)
    have := h.1.pos
    have := h'.1.pos
    exact ⟨intL_inj (e1.symm.trans e3), by omega⟩
theorem numL_le {n k : Nat} (hk : 0 < k) (h : n < 10 ^ k) : (TL.numL n).length ≤ k := TL.numL_len hk h
theorem intL_le {n : Int} {k : Nat} (hk : 0 < k) (h : n.natAbs < 10 ^ k) : (intL n).length ≤ k + 1 := by
  have := numL_le hk h
  unfold intL
  split
  · rw [List.length_cons]; omega
  · omega
theorem ratL_le {n u : Int} {k j : Nat} (hk : 0 < k) (hj : 0 < j) (h : n.natAbs < 10 ^ k) (h' : u.natAbs < 10 ^ j) : (ratL n u).length ≤ k + j + 3 := by
  have h1 := intL_le hk h
  have h2 := intL_le hj h'
  unfold ratL
  split
  · omega
  · rw [List.length_append, List.length_cons]; omega
theorem digits_small {l : List Nat} {k : Nat} (h : figs l = true) (hl : l.length ≤ k) : digitsVal l < 10 ^ k := Nat.lt_of_lt_of_le (digitsVal_lt (figs_of h).2) (Nat.pow_le_pow_right (by decide) hl)
/-! ### the law's own reading of figures -/
def figN (w : List Nat) : Int := if figs w = true ∧ ¬ (w.head? = some 48 ∧ w ≠ [48]) then ((digitsVal w : Nat) : Int) else -1
theorem figN_num (n : Nat) : figN (TL.numL n) = (n : Int) := by
  have h : ¬ ((TL.numL n).head? = some 48 ∧ TL.numL n ≠ [48]) := by
    rintro ⟨h1, h2⟩
    have := num_lead n h1
    subst this
    exact h2 (TL.numL_lt (by decide))
  unfold figN
  rw [if_pos ⟨numL_figs n, h⟩, TL.numL_val]
theorem figN_le {w : List Nat} {k : Nat} (hk : 0 < k) (h : w.length ≤ k) : (figN w).natAbs < 10 ^ k := by
  unfold figN
  split
  · rename_i c
    have := digits_small c.1 h
    omega
  · exact Nat.one_lt_pow (by omega) (by decide)
theorem bare_len (l : List Nat) : (bare l).length ≤ l.length := by
  unfold bare
  split
  · rw [List.length_tail]; omega
  · exact Nat.le_refl _
theorem in_fig (c : Nat) : decide (c ∈ (Str.cps "0123456789").toList) = dig c := by
  have e : (Str.cps "0123456789").toList = [48, 49, 50, 51, 52, 53, 54, 55, 56, 57] := by rfl
  rw [e]
  unfold dig
  by_cases h : 48 ≤ c ∧ c ≤ 57
  · rw [decide_eq_true h.1, decide_eq_true h.2]
    refine decide_eq_true ?_
    simp only [List.mem_cons, List.not_mem_nil, or_false]
    omega
  · have : (decide (48 ≤ c) && decide (c ≤ 57)) = false := by
      rw [Bool.and_eq_false_iff]
      by_cases h1 : 48 ≤ c
      · exact .inr (decide_eq_false fun z => h ⟨h1, z⟩)
      · exact .inl (decide_eq_false h1)
    rw [this]
    refine decide_eq_false fun z => h ?_
    simp only [List.mem_cons, List.not_mem_nil, or_false] at z
    omega
/-! ### slices -/
theorem slice_ab (m : List Nat) (i j : Nat) : Txt.slice (S m) (some (i : Int)) (some (j : Int)) = S ((m.drop (min i m.length)).take (min j m.length - min i m.length)) := by
  rw [← C8.cutS_slice]
  unfold L2.cutS
  rw [HT.sIx_nat, HT.sIx_nat, S_len]
theorem emp_cat (m : List Nat) : Str.empty ++ S m = S m := S_cat [] m
theorem stroke_S : Str.ofString "/" = S [47] := rfl
theorem blank_S : Str.ofString " " = S [32] := rfl
end G
namespace G
open PySem SX NumText
/-! ### short texts of plain signs -/
def TxtOk (l : List Nat) (k : Nat) : Prop := l.length ≤ k ∧ ∀ c ∈ l, c < 128
theorem TxtOk.mono {l : List Nat} {j k : Nat} (h : TxtOk l j) (hk : j ≤ k) : TxtOk l k := ⟨Nat.le_trans h.1 hk, h.2⟩
theorem TxtOk.app {l m : List Nat} {j k n : Nat} (h : TxtOk l j) (h' : TxtOk m k) (hn : j + k ≤ n) : TxtOk (l ++ m) n := ⟨by rw [List.length_append]; have := h.1; have := h'.1; omega, fun c hc => (List.mem_append.mp hc).elim (h.2 c) (h'.2 c)⟩
theorem TxtOk.take {l : List Nat} {k : Nat} (h : TxtOk l k) (i : Nat) : TxtOk (l.take i) (min i l.length) := ⟨by rw [List.length_take]; omega, fun c hc => h.2 c (List.mem_of_mem_take hc)⟩
theorem TxtOk.drop {l : List Nat} {k : Nat} (h : TxtOk l k) (i : Nat) : TxtOk (l.drop i) (l.length - i) := ⟨by rw [List.length_drop]; omega, fun c hc => h.2 c (List.mem_of_mem_drop hc)⟩
theorem txt_of (l : List Nat) (k : Nat) (h : (decide (l.length ≤ k) && l.all (· < 128)) = true) : TxtOk l k := by
  obtain ⟨h1, h2⟩ := Bool.and_eq_true_iff.mp h
  exact ⟨of_decide_eq_true h1, fun c hc => of_decide_eq_true (List.all_eq_true.mp h2 c hc)⟩
theorem slice_end {l : List Nat} {k : Nat} (h : TxtOk l k) : ∃ r, Txt.slice (S l) (some (-1)) none = S r ∧ TxtOk r 1 := by
  by_cases e : l = []
  · subst e
    exact ⟨[], rfl, by simp, fun c hc => nomatch hc⟩
  · refine ⟨_, slice_last e, ?_, fun c hc => h.2 c (List.mem_of_mem_drop hc)⟩
    rw [List.length_drop]
    omega
theorem slice_one {l : List Nat} {k : Nat} (h : TxtOk l k) (j : Nat) : ∃ r, Txt.slice (S l) (some (j : Int)) (some ((j : Int) + 1)) = S r ∧ TxtOk r 1 := by
  refine ⟨_, slice_ab l j (j + 1), ?_, fun c hc => h.2 c (List.mem_of_mem_drop (List.mem_of_mem_take hc))⟩
  rw [List.length_take]
  omega
theorem int_txt (n : Int) : ∀ c ∈ intL n, c < 128 := fun c hc => by
  rcases intL_mem hc with e | e <;> omega
theorem rat_txt (n u : Int) : ∀ c ∈ ratL n u, c < 128 := fun c hc => by
  unfold ratL at hc
  split at hc
  · exact int_txt n c hc
  · rcases List.mem_append.mp hc with e | e
    · exact int_txt n c e
    · rcases List.mem_cons.mp e with e | e
      · omega
      · exact int_txt u c e
end G

namespace G
open PySem PySem.Spec PyProof.Rows L2

/-! ### a list comprehension without tests whose element makes new things at most -/
/-- all but lists stays -/
def NoL (H H' : Hp) : Prop := ∀ b o, H b = some o → (∀ zs, o ≠ .lst zs) → H' b = some o
theorem NoL.same {H H' : Hp} (S : Same H H') : NoL H H' := fun b o e _ => S b o e
theorem noL_upd {H : Hp} {D : Addr} {xs ys : List V} (h : H D = some (.lst xs)) : NoL H (upd H D (.lst ys)) := fun b o e n => by
  have : b ≠ D := fun z => by
    rw [z, h] at e
    exact n xs (Option.some.inj e).symm
  rw [upd_ne this]
  exact e
theorem lc_rel {K : PySem.W.Frag} {a : Addr} {xs : List V} {i0 : Nat} {te : TE} {vs : List Nat} {σ : L2.St} {H1 : Hp} {D : Addr} {Qd : Hp → Prop} (R : V → V → Hp → Prop) (hR : ∀ x y H H', NoL H H' → R x y H → R x y H')
    (hD : H1 D = none) (ha : SqL K H1 a xs) (hz : xs.length < sizeLine) (hw : ∀ x, wipe ((wipe σ vs).set i0 (some x)) vs = wipe σ vs)
    (he : ∀ x ∈ xs, ∀ H' (Q : VK), Same H1 H' → (∀ y H'', Same H' H'' → R x y H'' → Q y H'') → te ((wipe σ vs).set i0 (some x)) H' Q)
    (hd : ∀ ys H', Same H1 H' → H' D = some (.lst ys) → Paired (fun x y => R x y H') xs ys → Qd H') :
    ∃ W : Nat → Nat → Hp → Prop, (∃ m, W 0 m (upd H1 D (.lst []))) ∧ ∀ i m H, W i m H →
      ((Itl K a).stop i H ∧ Qd H) ∨ ((Itl K a).go i H ∧ ∃ Nx : Hp → Prop, (∀ H', Nx H' → ∃ m', m' < m ∧ W (i + 1) m' H') ∧ ∀ x H', (Itl K a).yld i H x H' → gName i0 x (wipe σ vs) H' fun σ2 H2 => wipe σ2 vs = wipe σ vs ∧ tYes σ2 H2 fun b H3 =>
        if b = true then te σ2 H3 fun y H4 => ∃ acc, H4 D = some (.lst acc) ∧ acc.length < sizeLine ∧ Nx (upd H4 D (.lst (acc ++ [y]))) else Nx H3) := by
  refine lc_list (K := K) (a := a) (xs := xs) (fun i H' => Same H1 H' ∧ ∃ ys, H' D = some (.lst ys) ∧ Paired (fun x y => R x y H') (xs.take i) ys) ⟨same_new hD, [], upd_same, by rw [List.take_zero]; exact .nil⟩ ?_ ?_ ?_
  · rintro i H' hi ⟨S, _⟩
    exact S.seq ha
  · rintro i x H' hx ⟨S, ys, dy, p⟩
    obtain ⟨hi, ex⟩ := List.getElem?_eq_some_iff.mp hx
    refine ⟨hw x, ?_⟩
    unfold tYes
    refine iteT (he x (ex ▸ List.getElem_mem hi) H' _ S fun y H'' S2 r => ?_)
    have d2 := S2 _ _ dy
    have len := p.length
    rw [List.length_take] at len
    refine ⟨ys, d2, by omega, fun b o e => ?_, ys ++ [y], upd_same, ?_⟩
    · rw [upd_ne (ne_of_none e hD)]
      exact S2 _ _ (S _ _ e)
    · rw [List.take_succ, hx]
      have nl := noL_upd (ys := ys ++ [y]) d2
      refine PySem.Paired.snoc (Paired.mapP p fun x y r => hR _ _ _ _ nl (hR _ _ _ _ (NoL.same S2) r)) (hR _ _ _ _ nl r)
  · rintro H' ⟨S, ys, dy, p⟩
    rw [List.take_length] at p
    exact hd ys H' S dy p
end G

namespace G
open PySem PySem.Spec PyProof.Rows L2 SX

/-! ### repr of data with longer ints -/
structure GdF (d : PyData) : Prop where
  short : d.leavesShort 80 = true
  show_ : d.showable = true
  depth : d.depth ≤ 10
  weight : d.weight ≤ 10000
theorem GdF.fits {d : PyData} (g : GdF d) : d.shown.length ≤ sizeLine := by
  have := PyData.shown_le 80 (by decide) d g.short
  have h := g.weight
  rw [sizeLine_eq]
  have : (80 + 2) * d.weight ≤ 82 * 10000 := Nat.mul_le_mul (by decide) h
  omega
mutual
/-- data without dicts -/
inductive Dz (H : Hp) : V → PyData → Prop
  | int (i : Int) : Dz H (.int i) (.int i)
  | non : Dz H .non .none
  | lst {a : Addr} {xs : List V} {ds : List PyData} : H a = some (.lst xs) → DzAll H xs ds → Dz H (.ref a) (.list ds)
  | tup {a : Addr} {xs : List V} {ds : List PyData} : H a = some (.tup xs) → DzAll H xs ds → Dz H (.ref a) (.tuple ds)
inductive DzAll (H : Hp) : List V → List PyData → Prop
  | nil : DzAll H [] []
  | cons {v : V} {vs : List V} {d : PyData} {ds : List PyData} : Dz H v d → DzAll H vs ds → DzAll H (v :: vs) (d :: ds)
end
section
variable {X : Cx} {pins : List (Addr × Obj)} {σ : L2.St} {H : Hp} {s : Shared}
mutual
theorem Dz.reads (I : Inv X pins σ H s) : ∀ {v : V} {d : PyData} {u : Value}, Dz H v d → RelV v u → ∃ as, Reads s.heap u d as
  | _, _, _, .non, r => by cases r; exact ⟨_, .none⟩
  | _, _, _, .int i, r => by obtain ⟨t, rfl⟩ := r; exact ⟨_, .int i t⟩
  | _, _, _, .lst e t, r => by
    cases r
    obtain ⟨_, its, m, rv, ho⟩ := I.hok _ _ e
    obtain ⟨as, hr⟩ := DzAll.reads I t rv
    exact ⟨_, .list ho rfl rfl hr⟩
  | _, _, _, .tup e t, r => by
    cases r
    obtain ⟨_, its, rv, o, ho, hc, m, hd⟩ := I.hok _ _ e
    obtain ⟨as, hr⟩ := DzAll.reads I t rv
    exact ⟨_, .tuple ho hc hd hr⟩
theorem DzAll.reads (I : Inv X pins σ H s) : ∀ {vs : List V} {ds : List PyData} {us : List Value}, DzAll H vs ds → Vals vs us → ∃ as, ReadsAll s.heap us ds as
  | _, _, _, .nil, r => by cases r; exact ⟨_, .nil⟩
  | _, _, _, .cons h t, r => by
    cases r with
    | cons r1 r2 =>
      obtain ⟨as, q1⟩ := Dz.reads I h r1
      obtain ⟨bs, q2⟩ := DzAll.reads I t r2
      exact ⟨_, .cons q1 q2⟩
end
end
theorem call_reprF {X : Cx} (hq : Quiet X.A) (hu : X.A.units + 64 < cLine) : CallR X (.builtin "repr") (fun xs H Q => ∃ a d, xs = [.ref a] ∧ Dz H (.ref a) d ∧ GdF d ∧ d.hasDict = false ∧ Q (.str d.shown) H) := by
  intro pins s σ H xs us Q I r h
  obtain ⟨a, d, rfl, hd, g, nd, q⟩ := h
  obtain ⟨u, rfl, ru⟩ := vals1 r
  cases ru
  obtain ⟨as, hr⟩ := Dz.reads I hd rfl
  refine repr_of_reads' (h₀ := s.heap) hr g.show_ (fun z => by rw [nd] at z; cases z) hq (by have := g.depth; omega) (fun _ _ z => z) (fun h' t tk hk => ?_) g.fits
  exact ⟨.str d.shown, H, I.kept hk, ⟨_, rfl⟩, q⟩
/-- two ints -/
def Mid (i : Int) : Prop := i.natAbs < 10 ^ 64
theorem mid_short {i : Int} (h : Mid i) : (PyData.int i).leavesShort 80 = true := by
  refine decide_eq_true ?_
  show (Str.ofString (toString i)).length ≤ 80
  rw [int_L, S_len]
  have := intL_le (k := 64) (by decide) h
  omega
theorem mid_show {i : Int} (h : Mid i) : (PyData.int i).showable = true := decide_eq_true (Nat.lt_of_lt_of_le (PySem.Flt.log2_lt_of (k := 213) (by decide) (Nat.lt_of_lt_of_le h (by decide +kernel))) (by decide))
theorem mid_weight {i : Int} (h : Mid i) : (PyData.int i).weight ≤ 300 := by
  have := PySem.Flt.log2_lt_of (k := 213) (by decide) (Nat.lt_of_lt_of_le h (show 10 ^ 64 ≤ 2 ^ 213 by decide +kernel))
  show (if i == 0 then 0 else i.natAbs.log2 + 1) ≤ 300
  split <;> omega
def pairD (n u : Int) : PyData := .tuple [.int n, .int u]
theorem pair_good {n u : Int} (h : Mid n) (h' : Mid u) : (pairD n u).leavesShort 80 = true ∧ (pairD n u).showable = true ∧ (pairD n u).depth ≤ 1 ∧ (pairD n u).weight ≤ 1000 := by
  refine ⟨?_, ?_, ?_, ?_⟩
  · show ((PyData.int n).leavesShort 80 && ((PyData.int u).leavesShort 80 && true)) = true
    rw [mid_short h, mid_short h']
    rfl
  · show ((PyData.int n).showable && ((PyData.int u).showable && true)) = true
    rw [mid_show h, mid_show h']
    rfl
  · show max 0 (max 0 0) + 1 ≤ 1
    decide
  · show (PyData.int n).weight + 1 + ((PyData.int u).weight + 1 + 0) ≤ 1000
    have := mid_weight h
    have := mid_weight h'
    omega
theorem pair_gd {n u : Int} (h : Mid n) (h' : Mid u) : GdF (pairD n u) := by
  obtain ⟨a, b, c, d⟩ := pair_good h h'
  exact ⟨a, b, by omega, by omega⟩
theorem pairs_gd {n u m t : Int} (h1 : Mid n) (h2 : Mid u) (h3 : Mid m) (h4 : Mid t) : GdF (.list [pairD n u, pairD m t]) := by
  obtain ⟨a, b, c, d⟩ := pair_good h1 h2
  obtain ⟨a', b', c', d'⟩ := pair_good h3 h4
  refine ⟨?_, ?_, ?_, ?_⟩
  · show ((pairD n u).leavesShort 80 && ((pairD m t).leavesShort 80 && true)) = true
    rw [a, a']
    rfl
  · show ((pairD n u).showable && ((pairD m t).showable && true)) = true
    rw [b, b']
    rfl
  · show max (pairD n u).depth (max (pairD m t).depth 0) + 1 ≤ 10
    omega
  · show (pairD n u).weight + 1 + ((pairD m t).weight + 1 + 0) ≤ 10000
    omega
theorem rat_small {l : List Nat} {n u : Int} (h : IsRat l n u) (hl : l.length ≤ 60) : Mid n ∧ Mid u ∧ 0 < u := by
  have hp := h.1.pos
  have up : ∀ k : Nat, (TL.numL k).length ≤ 60 → k < 10 ^ 64 := fun k hk => by
    have := digits_small (numL_figs k) hk
    rw [TL.numL_val] at this
    exact Nat.lt_of_lt_of_le this (by decide +kernel)
  have num : (TL.numL n.natAbs).length ≤ (intL n).length := by
    unfold intL
    split
    · rw [List.length_cons]; omega
    · exact Nat.le_refl _
  rcases split_at 47 l with f | ⟨p, q, rfl, f⟩
  · obtain ⟨rfl, rfl⟩ := rat_plain h f
    exact ⟨up _ (by omega), by show (1 : Int).natAbs < 10 ^ 64; decide +kernel, by decide⟩
  · obtain ⟨_, rfl, rfl⟩ := rat_stroke h f
    rw [List.length_append, List.length_cons] at hl
    exact ⟨up _ (by omega), up _ (by omega), hp⟩
end G

namespace G
open PySem PySem.Spec PyProof.Rows L2

/-! ### a list comprehension whose element may look at the def's frame as it stands when the comprehension begins -/
section
variable {X : Cx} {elt tg iter : Expr} {scope : Scope} {own : List (Str × Nat)} {pos : Pos} {wi : TI} {g : TG} {te : L2.St → TE}
/-- the block's own environment -/
abbrev inEnv (X : Cx) (scope : Scope) (z : Nat) : Env := compEnvC scope (cellsFrom (z + 1) scope.names (cloFrom X.env.cells scope.names [])) z X.env
/-- behind a turn, and ahead of the first one -/
def Between (B : Cx) (vs : List Nat) (σ : L2.St) (fp : List Addr) (tn : Nat → Heap → Prop) (W : Nat → Nat → Hp → Prop) (n : Nat) (s : Shared) : Prop :=
  ∃ i H, Inv B [] (wipe σ vs) H s ∧ tn i s.heap ∧ (∀ b ∈ fp, H b = none) ∧ W i n H
theorem between_next {B : Cx} {vs : List Nat} {σ σ1 : L2.St} {fp : List Addr} {tn : Nat → Heap → Prop} {W : Nat → Nat → Hp → Prop} {tg : Expr} {J : It} {it : Addr} {i m n : Nat} {h : Heap} {H : Hp} {s : Shared}
    (T : Turn B.prog B.w B.K tg J fp it tn) (I : Inv B ([] ++ pinsAt fp h) σ1 H s) (st : tn i h) (same : wipe σ1 vs = wipe σ vs) (hw : W i m H) (hm : m < n) : ∃ k, k < n ∧ Between B vs σ fp tn W k s := by
  have stays : ∀ b ∈ fp, ∀ o, h.get? b = some o → s.heap.get? b = some o ∧ H b = none := fun b hb o e =>
    have z := I.pin (b, o) (List.mem_append_right _ (List.mem_append_right _ (mem_pinsAt hb e)))
    ⟨z.1, z.2.1⟩
  refine ⟨m, hm, i, H, ?_, T.keep _ _ _ st fun b hb o e => (stays b hb o e).1, fun b hb => ?_, hw⟩
  · have len : (wipe σ vs).length = σ1.length := by rw [← same, wipe_length]
    refine I.unpinned.weak len fun j v e => ?_
    rw [← same] at e
    exact (wipe_some e).1
  · obtain ⟨o, e, _⟩ := T.obj _ _ st b hb
    exact (stays b hb o e).2
theorem pe_lcC (hc : X.calm = true) (hN : X.N.Nodup) (hi : PI X tg iter wi) (ok : BlkOk X.N X.env.scope scope own)
    (hg : ∀ (s : Shared) (H : Hp) (C : Addr) (cl : List (Str × Addr)) (fp : List Addr), PG (X.blk s H scope (compEnvC scope cl C X.env) fp) tg g)
    (he : ∀ (pins : List (Addr × Obj)) (σ : L2.St) (s : Shared) (H : Hp) (C : Addr) (cl : List (Str × Addr)) (fp : List Addr), Inv X pins σ H s → (∀ b ∈ fp, FpOk X pins H b) → PE (X.blk s H scope (compEnvC scope cl C X.env) fp) elt (te σ))
    (hs : ∀ x, foldedSetIterable iter X.env x = pure x := by intro _; rfl) :
    PE X (.ListComp elt [⟨tg, iter, [], 0⟩] scope pos) (fun σ H Q => tLc wi g tYes (te σ) (own.map (·.2)) σ H Q) := by
  constructor
  intro pins s σ H Q I h
  rw [eval_ListComp]
  have caught : ∀ y ∈ scope.names, y.2 = .free → ∃ c, X.env.cells.lookup y.1 = some c := fun y hy e => (ok.free y hy e).elim (fun k => I.ok.has _ (.inl k)) fun k => I.ok.has _ (.inr k)
  apply wpAny_comprehension_free (use := none) rfl hs (closure_ok caught) ok.kind (fun y hy e => by rw [ok.uniq y hy, e])
  apply thn (hi.run pins s σ H _ I h)
  intro v s1 h1
  apply thn h1
  rintro itv s2 ⟨it, fp, tn, J, H2, rfl, I2, T, st2, f2, q⟩
  apply wpAny_newObj_type _ (by show 0 ≤ sizeLine; decide)
  apply newEnv_comp
  -- the list that is to be filled
  obtain ⟨W, ⟨m0, w0⟩, turn⟩ := q s2.heap.objs.size (I2.hok.fresh (Nat.le_refl _))
  let L : Addr := s2.heap.objs.size
  let s3 : Shared := { s2 with heap := s2.heap.push { cls := .type "list", data := .seq ([] : List Value).toArray } }
  let H3 : Hp := upd H2 L (.lst [])
  have up : ∀ b o, s2.heap.get? b = some o → s3.heap.get? b = some o := fun b o e => Heap.get?_push_of_some _ e
  have I3 : Inv X pins σ H3 s3 := I2.laid (t' := s2.toks) up (Nat.le_refl _) ⟨Nat.zero_le _, [], 0, .nil, Heap.get?_push_size _ rfl⟩
  have old : ∀ b ∈ fp, b < s2.heap.objs.size := fun b hb => by
    obtain ⟨o, e, _⟩ := T.obj _ _ st2 b hb
    exact Heap.lt_size e
  have z3 : s3.heap.objs.size = s2.heap.objs.size + 1 := Heap.size_push ..
  have f3 : ∀ b ∈ fp, FpOk X pins H3 b := fun b hb => ⟨(upd_ne (Nat.ne_of_lt (old b hb))).trans (f2 b hb).1, (f2 b hb).2⟩
  have I4 := block_start I3 ok hN fun b hb => ⟨f3 b hb, Nat.lt_of_lt_of_le (old b hb) (by rw [z3]; exact Nat.le_succ _)⟩
  let B : Cx := X.blk s3 H3 scope (inEnv X scope s3.heap.objs.size) fp
  have st3 : tn 0 s3.heap := T.keep _ _ _ st2 fun b _ o e => up b o e
  let s4 : Shared := { s3 with heap := pushCells (s3.heap.push { cls := .type "dict", data := .dict #[] }) scope.names }
  have st4 : tn 0 s4.heap := T.keep _ _ _ st3 fun b _ o e => pushCells_keeps _ _ _ _ (Heap.get?_push_of_some _ e)
  replace I4 : Inv B [] (wipe σ (own.map (·.2))) H3 s4 := I4
  have mine : ∀ {σ' : L2.St} {H' : Hp} {s' : Shared}, Inv B [] σ' H' s' → (∀ b ∈ fp, H' b = none) → ∀ b ∈ fp, FpOk B [] H' b := fun J n b hb =>
    ⟨n b hb, (J.ok.exf b hb).1, J.ok.exfs b hb, .inl hb, fun x c e => (J.ok.exf b hb).2 x c e, fun p hp => nomatch (show p ∈ ([] : List (Addr × Obj)) from hp)⟩
  show codeAny _ _ (.compStart _ 0 (.ref it) (.ref L) (inEnv X scope s3.heap.objs.size)) _ s4
  have all : codeAny (model X.prog X.w) X.A (.compLoop (.ListComp elt [⟨tg, iter, [], 0⟩] scope pos) 0 (.ref it) (.ref L) (inEnv X scope s3.heap.objs.size)) (compPost (model X.prog X.w) X.A X.xe none (EP X pins σ Q) (.ref L) s3.heap.objs.size) s4 := by
    apply compLoop_any (Between B (own.map (·.2)) σ fp tn W) _ m0 ⟨0, H3, I4, st4, fun b hb => (f3 b hb).1, w0⟩
    rintro n s5 ⟨i, H5, I5, st5, n5, w5⟩
    rcases turn i n H5 w5 with ⟨stop, fin⟩ | ⟨go, Nx, hNx, step⟩
    · -- no item left
      apply thnF (T.done B rfl rfl rfl hc i [] s5 _ H5 (fun _ _ => False) I5 (mine I5 n5) st5 stop)
      rintro r s6 ⟨rfl, I6⟩
      have I7 : Inv X pins σ H5 s6 := I3.call' (ch := fp) I6.os I6.base I6.hok I6.bare fun b hb => ⟨(f3 b hb).2.2.2.1, (f3 b hb).2.1, (f3 b hb).2.2.2.2.1, (f3 b hb).2.2.2.2.2⟩
      obtain ⟨m, hn, _⟩ := I6.loc
      refine ⟨m, hn, fun h'' sb => ?_⟩
      obtain ⟨g0, g1, g2, g3, g4, g5⟩ := I3.fpOk (Nat.le_refl _) (show H5 s3.heap.objs.size = none from I6.free)
      exact ⟨.ref L, H5, I7.turned (t' := s6.toks) (fun b o hb e => (sb.2 b hb).trans e) g0 g1 g3 g4 g5, rfl, fin⟩
    · -- one more
      apply thnF (T.item B rfl rfl rfl hc i [] s5 _ H5 (fun _ _ => False) I5 (mine I5 n5) st5 go)
      rintro r s6 ⟨u, rfl, h6⟩
      apply thnF h6
      rintro _ s7 ⟨x, H7, I7, r7, y7, st7, n7⟩
      have J7 := I7.pinned (mine I7 n7) (T.obj _ _ st7)
      apply thnF ((hg s3 H3 _ _ fp).run _ s7 _ H7 x u _ J7 r7 (step x H7 y7))
      rintro _ s8 ⟨σ8, H8, I8, same, q8⟩
      apply thnF ((pts_nil (X := B)).run _ s8 σ8 H8 _ I8 q8)
      rintro b s9 ⟨H9, I9, q9⟩
      cases b with
      | false =>
        rw [if_neg Bool.false_ne_true] at q9 ⊢
        obtain ⟨m', hm, w'⟩ := hNx _ q9
        exact between_next T I9 st7 same w' hm
      | true =>
        rw [if_pos rfl] at q9 ⊢
        apply thnF ((he pins σ s3 H3 s3.heap.objs.size _ fp I3 f3).run _ s9 σ8 H9 _ I9 q9)
        rintro z s10 ⟨yv, H10, I10, r10, acc, hD, hz, nx⟩
        apply app_ok (X := B) I10 hD hz r10
        intro s11 I11
        obtain ⟨m', hm, w'⟩ := hNx _ nx
        exact between_next T I11 st7 same w' hm
  exact codeAny_compStart_list all (T.self X.A 0 _ _ _ st4 all)
end
end G

namespace G
open PySem PySem.Spec PyProof.Rows L2 LamX NdefX

/-! ### lambdas that are kept: in slots, in lists, handed on -/
/-- a lambda's words, the cells that it captured, its code object -/
structure LF where
  qual : Str
  params : Arguments
  body : Expr
  scope : Scope
  cl : List (Str × Addr)
  c : Addr
abbrev LF.nf (F : LF) : NF := ⟨"<lambda>", F.qual, F.params, [], F.scope, F.cl, F.c⟩
/-- the object at f is the lambda F -/
def LamO (f : Addr) (F : LF) : HO := .ext fun h => ∃ pm ctv : Value, h.get? f = some (PySem.W.kla_obj "<lambda>" F.qual F.params F.body F.scope F.cl pm F.c ctv)
theorem lamO_ne {f : Addr} {F : LF} (ps : Array Value) : LamO f F ≠ .tbl ps := fun z => by
  unfold LamO at z
  cases z
theorem lamO_no {f : Addr} {F : LF} {xs : List V} : LamO f F ≠ .lst xs := fun z => by
  unfold LamO at z
  cases z
theorem lamO_at {P : Program} {w : World} {H : Hp} {h : Heap} {f : Addr} {F : LF} (hok : HOk P w H h) (e : H f = some (LamO f F)) : ∃ pm ctv : Value, h.get? f = some (PySem.W.kla_obj "<lambda>" F.qual F.params F.body F.scope F.cl pm F.c ctv) := (hok f _ e).1
section
variable {X : Cx} {pins : List (Addr × Obj)} {σ : L2.St} {H : Hp} {s : Shared}
/-- it is known from its making on -/
theorem lam_put {F : LF} {h' : Heap} {t : Nat} {pm ctv : Value} {H1 : Hp} (I : Inv X pins σ H1 { s with heap := h', toks := t }) :
    Inv X pins σ (upd H1 h'.objs.size (LamO h'.objs.size F)) { s with heap := h'.push (PySem.W.kla_obj "<lambda>" F.qual F.params F.body F.scope F.cl pm F.c ctv), toks := t } := by
  have e : (h'.push (PySem.W.kla_obj "<lambda>" F.qual F.params F.body F.scope F.cl pm F.c ctv)).get? h'.objs.size = some (PySem.W.kla_obj "<lambda>" F.qual F.params F.body F.scope F.cl pm F.c ctv) := Heap.get?_push_size _ rfl
  exact I.laid (t' := t) (a := h'.objs.size) (fun b u z => Heap.get?_push_of_some _ z) (Nat.le_refl _) ⟨⟨pm, ctv, e⟩, ⟨_, e⟩, fun h1 h2 ⟨p, q, z⟩ st => ⟨p, q, st _ z⟩⟩
/-- the table with one more code object -/
theorem tabs_more {T : List (Addr × Str)} {P c' : Addr} {q : Str} {ps : Array Value} {pos : Pos} (hT : Tabs T H) (hm : (P, q) ∈ T) (hu : ∀ p ∈ T, p.1 = P → p.2 = q) (hP : H P = some (.tbl ps)) (nC : H c' = none) :
    Tabs T (upd (upd H P (.tbl (ps ++ #[rawInt pos.line, rawInt pos.col, .ref c']))) c' (CodeO c' q)) ∧ ExtN H (upd (upd H P (.tbl (ps ++ #[rawInt pos.line, rawInt pos.col, .ref c']))) c' (CodeO c' q)) := by
  have nPc : P ≠ c' := ne_of_none hP nC
  have ext : ExtN H (upd (upd H P (.tbl (ps ++ #[rawInt pos.line, rawInt pos.col, .ref c']))) c' (CodeO c' q)) := by
    intro b o e n
    have b1 : b ≠ c' := ne_of_none e nC
    have b2 : b ≠ P := fun z => by
      rw [z, hP] at e
      exact n ps (Option.some.inj e).symm
    rw [upd_ne b1, upd_ne b2, e]
  have list : (ps ++ #[rawInt pos.line, rawInt pos.col, .ref c']).toList = ps.toList ++ [rawInt pos.line, rawInt pos.col, .ref c'] := by simp
  refine ⟨fun p hp => ?_, ext⟩
  obtain ⟨ps1, h1, h2, h3⟩ := hT p hp
  by_cases same : p.1 = P
  · rw [same, hP] at h1
    cases h1
    refine ⟨_, by rw [same, upd_ne nPc, upd_same], by rw [list]; exact PySem.TriplesOk_snoc _ _ _ _ h2, fun p' cv hcv => ?_⟩
    rw [list] at hcv
    rw [hu p hp same]
    rcases among_app _ h2 hcv with z | z
    · obtain ⟨c0, e1, e2⟩ := h3 p' cv z
      rw [hu p hp same] at e2
      exact ⟨c0, e1, ext _ _ e2 codeO_ne⟩
    · exact ⟨c', z, upd_same⟩
  · refine ⟨ps1, by rw [upd_ne (ne_of_none h1 nC), upd_ne same]; exact h1, h2, fun p' cv hcv => ?_⟩
    obtain ⟨c0, e1, e2⟩ := h3 p' cv hcv
    exact ⟨c0, e1, ext _ _ e2 codeO_ne⟩
end
/-- what a lambda's making asks: mk, the lambda by its code object -/
def tLamK (T : List (Addr × Str)) (mk : Addr → LF) : TE := fun σ H Q => Tabs T H ∧ ∀ f c' H1, ExtN H H1 → Tabs T H1 → (∀ b, H1 b = none → H b = none) → H f = none → H1 f = some (LamO f (mk c')) → H1 c' = some (CodeO c' (mk c').qual) → Q (.ref f) H1
abbrev lamOf (X : Cx) (params : Arguments) (body : Expr) (scope : Scope) (c' : Addr) : LF := ⟨X.env.qual ++ "<lambda>", params, body, scope, cloFrom X.env.cells scope.names [], c'⟩
theorem none_upd {H : Hp} {a b : Addr} {o : HO} (h : upd H a o b = none) : H b = none := by
  by_cases e : b = a
  · rw [e, upd_same] at h
    cases h
  · rw [upd_ne e] at h
    exact h
theorem pe_lamK {X : Cx} {T : List (Addr × Str)} {c P : Addr} {params : Arguments} {body : Expr} {scope : Scope} {pos : Pos} (TB : TabB X.base X.mg c P) (hcode : X.env.code = .ref c) (hm : (P, lamName X) ∈ T) (hu : ∀ p ∈ T, p.1 = P → p.2 = lamName X)
    (hdef : defaultsOf params X.env = ([], [])) (L : LamS X.env.scope scope) : PE X (.Lambda params body scope pos) (tLamK T (lamOf X params body scope)) := by
  constructor
  rintro pins s σ H Q I ⟨hT, q⟩
  apply PySem.W.kla_eval hdef
  obtain ⟨ps, hP, ht, ha⟩ := hT _ hm
  have atB : s.heap.BuiltinsAt X.mg P := TB.bm.keeps I.bk
  have atP : s.heap.get? P = some { cls := .none, data := .fields ps } := I.hok P _ hP
  have clos := closure_ok (L.has I.ok)
  -- once the code object is known
  have fin : ∀ (c' : Addr) (ctv pm : Value) (h' : Heap) (t : Nat) (H1 : Hp), Inv X pins σ H1 { s with heap := h', toks := t } → ExtN H H1 → Tabs T H1 → (∀ b, H1 b = none → H b = none) → s.heap.objs.size ≤ h'.objs.size → H1 c' = some (CodeO c' (lamName X)) →
      EP X pins σ Q (.ref h'.objs.size) { s with heap := h'.push (PySem.W.kla_obj "<lambda>" (lamName X) params body scope (cloFrom X.env.cells scope.names []) pm c' ctv), toks := t } := fun c' ctv pm h' t H1 J e T1 fr sz hc => by
    have nF : H1 h'.objs.size = none := J.hok.fresh (Nat.le_refl _)
    refine ⟨.ref h'.objs.size, _, lam_put (F := lamOf X params body scope c') J, rfl, q h'.objs.size c' _ (fun b o z n => ?_) (T1.ext fun b o z => ?_) (fun b z => fr b (none_upd z)) (I.hok.fresh sz) upd_same ?_⟩
    · have z1 := e b o z n
      rw [upd_ne (ne_of_none z1 nF)]
      exact z1
    · rw [upd_ne (ne_of_none z nF)]
      exact z
    · rw [upd_ne (ne_of_none hc nF)]
      exact hc
  cases hit : codeAmong pos ps.toList with
  | some cv =>
    obtain ⟨c', rfl, hco⟩ := ha pos cv hit
    apply PySem.W.kla_makeFunctionHit (mg := X.mg) (c := c) (P := P) (ps := ps) clos I.ok.glob (I.mod.glob.keeps I.bk) hcode (TB.code.keeps I.bk) atP ht hit atB
    intro ctv h' t stay sz
    exact fin c' ctv _ h' t H (I.kept stay) (ExtN.refl H) hT (fun _ z => z) sz hco
  | none =>
    apply PySem.W.kla_makeFunction (mg := X.mg) (c := c) (P := P) (ps := ps) clos I.ok.glob (I.mod.glob.keeps I.bk) hcode (TB.code.keeps I.bk) atP ht hit TB.gP atB
    intro c' ctv h' t stay ge lt rec_ tab
    obtain ⟨c2, oc, vs, tk, e2, hoc, hd, hv⟩ := rec_
    cases e2
    have nC : H c' = none := I.hok.fresh ge
    obtain ⟨T1, ext⟩ := tabs_more (pos := pos) hT hm hu hP nC
    have J := inv_table (t' := t) (more := #[rawInt pos.line, rawInt pos.col, .ref c']) (h' := h') I hP (fun b o hb e => stay b o hb e) tab ge ⟨oc, vs, tk, hoc, hd, hv⟩
    exact fin c' ctv _ h' t _ J ext T1 (fun b z => none_upd (none_upd z)) (Nat.le_trans ge (Nat.le_of_lt lt)) upd_same
end G

namespace G
open PySem PySem.Spec PyProof.Rows L2 LamX NdefX

/-! ### what is known of a lambda -/
section
variable (P : Program) (w : World) (K : PySem.W.Frag) (mg : Str → Option Value) (base : Heap)
/-- its call, in any state in which its cells hold ws, does what tl reads -/
def LamB (k : Nat) (f : Addr) (F : LF) (fr : List Str) (ws : List (Option V)) (tl : XK → Hp → VK → Prop) : Prop :=
  ∀ (A : Around) (outer : List Env) (s : Shared) (H : Hp) (E : XK) (Q : VK), Room k A → Env0 P w K mg base A outer s H → H f = some (LamO f F) → H F.c = some (CodeO F.c F.qual) → CellsAt F.cl fr ws s.heap H → tl E H Q →
    codeAny (model P w) A (.call (.ref f) ⟨[], []⟩) (CR (L2.CX P w) outer P w H s Q E) s
/-- a def whose first argument is a lambda that it calls: spc, from what the lambda's call does; d: how much deeper than the lambda -/
structure FnC (CX : CXT) (d : Nat) (g : Addr) (fd : FuncData) (ps : List Str) (spc : (XK → Hp → VK → Prop) → Sp) : Prop where
  len : ∀ tl vs H Q E, spc tl vs H Q E → vs.length = ps.length
  run : ∀ (A : Around) (outer : List Env) (s : Shared) (H : Hp) (args : Args) (us : List Value) (vs : List V) (Q : VK) (E : XK) (f : Addr) (F : LF) (fr : List Str) (ws : List (Option V)) (k : Nat) (tl : XK → Hp → VK → Prop),
    Quiet A → Room (k + d) A → Env0 P w K mg base A outer s H → BindsTo s fd args (ps.zip us) → Vals vs us → vs.head? = some (.ref f) → H f = some (LamO f F) → H F.c = some (CodeO F.c F.qual) → CellsAt F.cl fr ws s.heap H →
    (∀ y c, F.cl.lookup y = some c → c ∉ frs outer) → LamB P w K mg base k f F fr ws tl → spc tl vs H Q E → codeAny (model P w) A (.call (.ref g) args) (CR CX outer P w H s Q E) s
end
section
variable {P : Program} {w : World} {K : PySem.W.Frag} {mg : Str → Option Value} {base : Heap}
theorem LamB.mono {j k : Nat} {f : Addr} {F : LF} {fr : List Str} {ws : List (Option V)} {tl : XK → Hp → VK → Prop} (L : LamB P w K mg base j f F fr ws tl) (h : j ≤ k) : LamB P w K mg base k f F fr ws tl :=
  fun A outer s H E Q hr => L A outer s H E Q (hr.mono h)
theorem lamB_of {k : Nat} {f : Addr} {F : LF} {fr : List Str} {ws : List (Option V)} {tb : XK → TE} (S : NScope fr [] fr F.scope) (nb : ∀ pm ctv : Value, bindArgs (PySem.W.kla_fn "<lambda>" F.qual F.params F.body F.scope F.cl pm (.ref F.c) ctv) ⟨[], []⟩ = pure [])
    (bd : ∀ (A : Around) (outer : List Env) (s : Shared) (H : Hp) (E : XK), Room k (A.deeper (envF F.nf f s.heap.objs.size)) → PE (ncx (L2.CX P w) P w K mg base fr F.nf f A outer s H E) F.body (tb E)) :
    LamB P w K mg base (k + 1) f F fr ws (fun E H Q => tb E ws H Q) := by
  intro A outer s H E Q hr e0 hf hc C ht
  have lim : s.heap.NoLimit := e0.mod.nolimit.keeps fun b o e => (e0.bs b o e).1
  obtain ⟨pm, ctv, ho⟩ := lamO_at e0.hok hf
  apply PySem.W.kla_callFunE hr.depth ho rfl S.co S.gen rfl (codeO_at e0.hok hc)
  rw [nb]
  apply wpAny_pure
  apply wpAny_newFunctionEnv S.nocell (fun y hy => nomatch (show y ∈ ([] : List (Str × Value)) from hy)) _ S.kind
  intro h₁ hns hsb
  refine ⟨lim.fresh _ hsb, ?_⟩
  have kp : ∀ b o, s.heap.get? b = some o → h₁.get? b = some o := fun b o e => hsb.extBut b o (Nat.ne_of_lt (Heap.lt_size e)) (Heap.get?_push_of_some _ e)
  have J := inv_startN (CX := L2.CX P w) (N := fr) (F := F.nf) (f := f) (E := E) (us := []) (vs := []) (tk := s.toks + ([] : List (Str × Value)).length) S hr.hd e0 rfl .nil C hns kp
  have st : startF fr [] ws = ws := by
    unfold startF
    rw [C.len, List.map_nil, List.nil_append, List.length_nil, Nat.sub_zero, Nat.sub_self, List.replicate_zero, List.append_nil]
  rw [st] at J
  apply PySem.W.kla_codeExpr
  apply wpAny_mono ((bd A outer s H E (hr.deeper _)).run [] _ ws H Q J ht)
  · rintro v s' ⟨v', H', J', rv, q⟩
    exact ⟨v', H', J'.os, J'.bare, J'.base, J'.hok, rv, q⟩
  · exact fun _ _ z => z
/-- a def's body, from what is known of the lambda at its entry -/
theorem fnC_of {CX : CXT} {d : Nat} {g : Addr} {name qual : Str} {params : Arguments} {body : List Stmt} {scope : Scope} {kV doc pm cdv ct oc : Value} {an od : Option Addr} {osl : Array (Option Value)} {N ps : List Str} {spc : (XK → Hp → VK → Prop) → Sp}
    (lk : K.lookup g = some ⟨oc, od, .func (PySem.W.fnOf name qual params body scope .none kV doc pm an cdv ct), osl⟩) (hcd : PySem.W.codeIn K cdv qual = true) (S : FnScope N ps scope) (len : ∀ tl vs H Q E, spc tl vs H Q E → vs.length = ps.length)
    (body_ok : ∀ (A : Around) (outer : List Env) (s : Shared) (H : Hp) (vs : List V) (Q : VK) (E : XK) (f : Addr) (F : LF) (fr : List Str) (ws : List (Option V)) (k : Nat) (tl : XK → Hp → VK → Prop), Quiet A → Room (k + d) (A.deeper (envOfC qual scope s.heap.objs.size g cdv)) →
      vs.head? = some (.ref f) → H f = some (LamO f F) → H F.c = some (CodeO F.c F.qual) → CellsAt F.cl fr ws s.heap H → (∀ y c, F.cl.lookup y = some c → c ∉ frs outer) → LamB P w K mg base k f F fr ws tl → spc tl vs H Q E →
      ∃ t, PSs (cxOf CX P w K mg base N qual scope g cdv A outer s H E) body t ∧ t { nx := fun _ H' => Q .non H', rt := Q } (L2.start N vs) H) :
    FnC P w K mg base CX (d + 1) g (PySem.W.fnOf name qual params body scope .none kV doc pm an cdv ct) ps spc := by
  refine ⟨len, fun A outer s H args us vs Q E f F fr ws k tl hq hr e0 hb r h1 h2 h3 C nf L hsp => ?_⟩
  exact run_ofS lk hcd S (show Room (k + d + 1) A from hr) e0 hb r (len _ _ _ _ _ hsp) fun hr' => body_ok A outer s H vs Q E f F fr ws k tl hq hr' h1 h2 h3 C nf L hsp
end
section
variable {Z : Cx} {pins : List (Addr × Obj)} {σ : L2.St} {H : Hp} {s : Shared}
/-- cells that were there at the entry are none of the running frames -/
theorem stack_free {cl : List (Str × Addr)} {fr : List Str} {ws : List (Option V)} (ok : Z.Ok) (C : CellsAt cl fr ws Z.s_0.heap Z.H_0) (nf : ∀ y c, cl.lookup y = some c → c ∉ Z.fs) : ∀ y c, cl.lookup y = some c → c ∉ frs Z.stack := by
  intro y c e hm
  rcases ok.stk with z | ⟨z, zf⟩
  · rw [z] at hm
    exact nf y c e hm
  · rw [z] at hm
    unfold frs at hm
    rw [List.filterMap_cons, zf] at hm
    rcases List.mem_cons.mp hm with r | r
    · obtain ⟨_, v, q⟩ := C.all y c e
      have h1 := q.lt
      rw [r] at h1
      exact Nat.lt_irrefl _ (Nat.lt_of_lt_of_le h1 ok.above)
    · exact nf y c e r
/-- a def's own cells are none of the running frames -/
theorem own_free (I : Inv Z pins σ H s) (fn : ∀ y c, Z.env.cells.lookup y = some c → Z.fn y = true) : ∀ y c, Z.env.cells.lookup y = some c → c ∉ frs Z.stack := by
  have old : ∀ y c, Z.env.cells.lookup y = some c → c ∉ Z.fs := fun y c e hm => by
    obtain ⟨_, o, ho, _⟩ := I.ok.funs.mem hm
    exact Nat.lt_irrefl _ (Nat.lt_of_lt_of_le (Heap.lt_size ho) (I.ok.cab y c (fn y c e) e))
  intro y c e hm
  rcases I.ok.stk with z | ⟨z, zf⟩
  · rw [z] at hm
    exact old y c e hm
  · rw [z] at hm
    unfold frs at hm
    rw [List.filterMap_cons, zf] at hm
    rcases List.mem_cons.mp hm with r | r
    · obtain ⟨v, o, ho, hd⟩ := I.cell y c e
      obtain ⟨m, ⟨o', es, ep, ho', hd', _⟩, _⟩ := I.loc
      rw [r, ho'] at ho
      cases ho
      rw [hd] at hd'
      cases hd'
    · exact old y c e r
end
end G

namespace G
open PySem PySem.Spec PyProof.Rows L2 LamX NdefX

/-! ### calls of lambdas that are known, and of defs that call them -/
/-- a(), in a def's body that got the lambda; it is known at the entry -/
theorem pe_callL {Y : Cx} {W : WX} {f : Addr} {F : LF} {fr : List Str} {ws : List (Option V)} {k i : Nat} {tl : XK → Hp → VK → Prop} {a : Str} {p1 p2 : Pos} (tk : Takes Y W) (hr : Room k Y.A) (C : CellsAt F.cl fr ws Y.s_0.heap Y.H_0)
    (nf : ∀ y c, F.cl.lookup y = some c → c ∉ Y.fs) (hx : Y.ex = []) (L : LamB Y.prog Y.w Y.K Y.mg Y.base k f F fr ws tl) (hN : Y.N[i]? = some a) (hv : Vis Y.env.scope a) (hd : (a == ("__debug__" : Str)) = false := by decide) (hcd : (a == ("__classdict__" : Str)) = false := by decide) :
    PE Y (.Call (.Name a p1) [] [] p2) (fun σ H Q => σ[i]? = some (some (.ref f)) ∧ H f = some (LamO f F) ∧ H F.c = some (CodeO F.c F.qual) ∧ tl (fun cls d H' => W cls d σ H') H Q) := by
  constructor
  rintro pZ sZ σZ HZ Q IZ ⟨hs, hf, hc, ht⟩
  apply wpAny_Call_Name_kw
  apply thn ((pe_var (pos := p1) (i := i) hN hv hd hcd).run pZ sZ σZ HZ (fun v H1 => v = .ref f ∧ H1 = HZ) IZ ⟨.ref f, hs, rfl, rfl⟩)
  rintro u s1 ⟨v, H1, I1, r1, rfl, rfl⟩
  obtain rfl : u = Value.ref f := r1
  obtain ⟨pm, ctv, of1⟩ := lamO_at I1.hok hf
  apply PySem.W.callWith_F0 ⟨_, _, _, _, of1⟩
  have C1 := C.later nf (fun y c e => by rw [hx]; exact fun z => nomatch z) I1
  have rc := L Y.A Y.stack s1 H1 (fun cls d H' => W cls d σZ H') Q hr I1.env0 hf hc C1 ht
  apply wpAny_call
  apply codeAny_mono rc
  intro r s' hq
  match r, hq with
  | .error e, hq => exact passAt tk σZ pZ H1 s1 e s' I1 hq
  | .ok .next, hq => exact hq.elim
  | .ok .brk, hq => exact hq.elim
  | .ok .cont, hq => exact hq.elim
  | .ok (.ret w), hq => exact I1.after hq
/-- what is known of the lambdas that R tells -/
def Known (Z : Cx) (d : Nat) (R : L2.St → Addr → LF → (XK → Hp → VK → Prop) → Prop) : Prop := ∀ (pins : List (Addr × Obj)) (σ : L2.St) (H : Hp) (s : Shared) (f : Addr) (F : LF) (tl : XK → Hp → VK → Prop), Inv Z pins σ H s → R σ f F tl →
  ∃ (fr : List Str) (ws : List (Option V)) (k : Nat), Room (k + d) Z.A ∧ CellsAt F.cl fr ws s.heap H ∧ (∀ y c, F.cl.lookup y = some c → c ∉ frs Z.stack) ∧ LamB Z.prog Z.w Z.K Z.mg Z.base k f F fr ws tl
/-- x(look, ..) -/
def tCallC (spc : (XK → Hp → VK → Prop) → Sp) (R : L2.St → Addr → LF → (XK → Hp → VK → Prop) → Prop) (dvs : List V) (E : XK) (t : TA) : TE := fun σ H Q => t σ H fun vs H1 => ∃ f F tl, R σ f F tl ∧ (vs ++ dvs).head? = some (.ref f) ∧ H1 f = some (LamO f F) ∧ H1 F.c = some (CodeO F.c F.qual) ∧ spc tl (vs ++ dvs) H1 Q E
theorem pe_fnC {Z : Cx} {CXg : CXT} {d : Nat} {g : Addr} {fd : FuncData} {ps : List Str} {spc : (XK → Hp → VK → Prop) → Sp} {R : L2.St → Addr → LF → (XK → Hp → VK → Prop) → Prop} {dvs : List V} {ds : List Value} {E : XK} {x : Str} {p pos : Pos} {e : Expr} {es : List Expr} {t : TA}
    (F : FnC Z.prog Z.w Z.K Z.mg Z.base CXg d g fd ps spc) (hq : Quiet Z.A) (hg : Gl Z x) (hm : Z.mg x = some (.ref g)) (hk : PySem.W.keepIn Z.K (.ref g) = true) (hb : Binds Z.K fd ps ds) (hd : Vals dvs ds) (hx : Passes CXg Z E) (ha : PA Z (e :: es) t) (known : Known Z d R)
    (hdb : (x == ("__debug__" : Str)) = false := by decide) (he : starEach (e :: es) Z.env = (false, eval e Z.env) :: starEach es Z.env := by rfl) (hpl : (backTo pos (starEach es Z.env)).any (·.1) = false := by rfl) :
    PE Z (.Call (.Name x p) (e :: es) [] pos) (tCallC spc R dvs E t) := by
  constructor
  intro pins s σ H Q I h
  apply wpAny_Call_Name_kw
  apply ld_glob I hg hm _ hdb
  apply PySem.W.callWith_K (h₀ := Z.base) I.ok.mod.kin hk _ he hpl
  apply thn (ha.run pos pins s σ H _ I h)
  rintro us s1 ⟨vs, H1, I1, r, f, G, tl, hR, hh, hf, hc, q⟩
  refine ⟨I1.kIn, ?_⟩
  obtain ⟨fr, ws, k, hr, C, nf, L⟩ := known pins σ H1 s1 f G tl I1 hR
  have r2 : Vals (vs ++ dvs) (us ++ ds) := r.append hd
  have hl : (us ++ ds).length = ps.length := r2.length.symm.trans (F.len _ _ _ _ _ q)
  apply wpAny_call
  apply codeAny_mono (F.run Z.A Z.stack s1 H1 ⟨us, []⟩ (us ++ ds) (vs ++ dvs) Q E f G fr ws k tl hq hr I1.env0 (hb s1 us I1.kIn hl) r2 hh hf hc C nf L q)
  intro res s' done
  match res, done with
  | .error e, z => exact hx pins σ H1 s1 e s' I1 z
  | .ok (.ret u), z => exact I1.after z
  | .ok .next, z => exact z.elim
  | .ok .brk, z => exact z.elim
  | .ok .cont, z => exact z.elim
/-- a lambda that was got as an argument -/
def RArg (f : Addr) (F : LF) (tl : XK → Hp → VK → Prop) : L2.St → Addr → LF → (XK → Hp → VK → Prop) → Prop := fun _ f' F' tl' => f' = f ∧ F' = F ∧ tl' = tl
theorem known_arg {Z : Cx} {d k : Nat} {f : Addr} {F : LF} {fr : List Str} {ws : List (Option V)} {tl : XK → Hp → VK → Prop} (C : CellsAt F.cl fr ws Z.s_0.heap Z.H_0) (nf : ∀ y c, F.cl.lookup y = some c → c ∉ Z.fs) (hx : Z.ex = []) (L : LamB Z.prog Z.w Z.K Z.mg Z.base k f F fr ws tl)
    (hr : Room (k + d) Z.A) : Known Z d (RArg f F tl) := by
  rintro pins σ H s f' F' tl' I ⟨rfl, rfl, rfl⟩
  exact ⟨fr, ws, k, hr, C.later nf (fun y c e => by rw [hx]; exact fun z => nomatch z) I, stack_free I.ok C nf, L⟩
/-- lambdas that were made here, by their places among the names -/
structure LamD (X : Cx) where
  params : Arguments
  body : Expr
  scope : Scope
  fr : List Str
  js : List Nat
  k : Nat
  tb : XK → TE
/-- what is asked of such a lambda -/
structure LamD.Good {X : Cx} (D : LamD X) : Prop where
  sc : NScope D.fr [] D.fr D.scope
  nb : ∀ (q : Str) (cl : List (Str × Addr)) (pm cv ctv : Value), bindArgs (PySem.W.kla_fn "<lambda>" q D.params D.body D.scope cl pm cv ctv) ⟨[], []⟩ = pure []
  free : ∀ y ∈ D.scope.names, y.2 = .free → X.env.scope.names.lookup y.1 = some .cell ∨ X.env.scope.names.lookup y.1 = some .free
  frm : ∀ y ∈ D.fr, (y, NameKind.free) ∈ D.scope.names
  at_ : D.js.map (fun j => X.N[j]?) = D.fr.map some
  bd : ∀ (f c' : Addr) (A : Around) (outer : List Env) (s : Shared) (H : Hp) (E : XK), Room D.k (A.deeper (envF (lamOf X D.params D.body D.scope c').nf f s.heap.objs.size)) → PE (ncx (L2.CX X.prog X.w) X.prog X.w X.K X.mg X.base D.fr (lamOf X D.params D.body D.scope c').nf f A outer s H E) D.body (D.tb E)
def RMade {X : Cx} (D : LamD X) (σ0 : L2.St) : L2.St → Addr → LF → (XK → Hp → VK → Prop) → Prop := fun _ _ F tl => ∃ c', F = lamOf X D.params D.body D.scope c' ∧ tl = fun E H Q => D.tb E (D.js.map (slotAt σ0)) H Q
def RHere {X : Cx} (D : LamD X) : L2.St → Addr → LF → (XK → Hp → VK → Prop) → Prop := fun σ f F tl => RMade D σ σ f F tl
theorem LamD.lam {X : Cx} {D : LamD X} (g : D.Good) (f c' : Addr) (ws : List (Option V)) : LamB X.prog X.w X.K X.mg X.base (D.k + 1) f (lamOf X D.params D.body D.scope c') D.fr ws (fun E H Q => D.tb E ws H Q) :=
  lamB_of (F := lamOf X D.params D.body D.scope c') g.sc (fun pm ctv => g.nb _ _ _ _ _) (fun A outer s H E hr => g.bd f c' A outer s H E hr)
theorem known_here {X : Cx} {D : LamD X} {d : Nat} (g : D.Good) (fn : ∀ y c, X.env.cells.lookup y = some c → X.fn y = true) (hr : Room (D.k + 1 + d) X.A) : Known X d (RHere D) := by
  rintro pins σ H s f F tl I ⟨c', rfl, rfl⟩
  have cp : Caps X (cloFrom X.env.cells D.scope.names []) D.fr D.js := Caps.made I.ok g.free g.frm g.at_
  exact ⟨D.fr, _, D.k + 1, hr, cells_of I cp, fun y c e => own_free I fn y c (cp.sub y c e), D.lam g f c' _⟩
theorem known_blk {X : Cx} {pins : List (Addr × Obj)} {σ : L2.St} {H : Hp} {s : Shared} {scope : Scope} {cenv : Env} {fp : List Addr} {d : Nat} {Ds : List (LamD X)} (I : Inv X pins σ H s) (hf : ∀ b ∈ fp, FpOk X pins H b) (g : ∀ D ∈ Ds, D.Good) (fn : ∀ y c, X.env.cells.lookup y = some c → X.fn y = true)
    (hr : ∀ D ∈ Ds, Room (D.k + 1 + d) X.A) : Known (X.blk s H scope cenv fp) d (fun σ' f F tl => ∃ D ∈ Ds, RMade D σ σ' f F tl) := by
  rintro pins' σ' H' s' f F tl I' ⟨D, hD, c', rfl, rfl⟩
  have gd := g D hD
  have cp : Caps X (cloFrom X.env.cells D.scope.names []) D.fr D.js := Caps.made I.ok gd.free gd.frm gd.at_
  have C : CellsAt (cloFrom X.env.cells D.scope.names []) D.fr (D.js.map (slotAt σ)) s.heap H := cells_of I cp
  have nf : ∀ y c, (cloFrom X.env.cells D.scope.names []).lookup y = some c → c ∉ frs X.stack := fun y c e => own_free I fn y c (cp.sub y c e)
  refine ⟨D.fr, _, D.k + 1, hr D hD, CellsAt.later (X := X.blk s H scope cenv fp) C nf (fun y c e hm => ?_) I', ?_, D.lam gd f c' _⟩
  · exact (hf c hm).2.2.2.2.1 y c (cp.sub y c e) rfl
  · exact stack_free (Z := X.blk s H scope cenv fp) I'.ok C nf
end G

namespace G
open PySem PySem.Spec PyProof.Rows L2

/-! ### == and != by an own __eq__, whatever stands on the right -/
section
variable {prog : Program} {w : World} {A : Around} {E : Value → Shared → Prop} {s : Shared} {K : PySem.W.Frag} {x C L f : Addr} {h₀ : Heap} {m : Str → Option Value} {ox : Obj} {od : Option Obj} {b tb : Value}
theorem ifBound_ne {M : Model} {args : List Value} {Q : Option Value → Shared → Prop} (X : K.In s.heap) (I : PySem.W.InstAt s.heap x ox C od) (hs : PySem.W.findIn K (.ref C) "__ne__" = some (some (.builtin "object.__ne__")))
    (h : wpAny M A (call (.builtin "object.__ne__") (.ref x :: args)) (fun v => Q (some v)) E s) : wpAny M A (callSpecialIfBound? (.ref x) "__ne__" args) Q E s := by
  simp only [callSpecialIfBound?, bindSpecialIfBound?]
  refine wpAny_holding (wpAny_bind (wpAny_bind (wpAny_bind (I.type.here ((PySem.W.looks_findIn X hs).here ?_)))))
  refine wpAny_bind (wpAny_askSetting (wpAny_ite ?_))
  have fin : wpAny M A (call (.builtin "object.__ne__") ([.ref x] ++ args) >>= fun v => pure (some v)) Q E s := wpAny_bind (wpAny_mono h (fun v s' h' => wpAny_pure h') fun _ _ h' => h')
  have bd : bindSpecial (.builtin "object.__ne__") (.ref x) = pure (.builtin "object.__ne__", [.ref x]) := PySem.F.cmp_object.ne.bind _
  rw [bd]
  split
  · exact wpAny_bind (wpAny_pure (wpAny_pure (by exact fin)))
  · exact wpAny_tryCatch (wpAny_bind (wpAny_pure (wpAny_pure (by exact fin))))
theorem ne_entry {Q : Fin → Shared → Prop} (X : K.In s.heap) (I : PySem.W.InstAt s.heap x ox C od) (hs : PySem.W.findIn K (.ref C) "__eq__" = some (some (.ref f))) (hf : PySem.W.isFn K (.ref f) = true) (hu : A.units < cLine)
    (hcall : wpAny (model prog w) A (call (.ref f) [.ref x, b]) (fun v s' => ∃ r, v = .bool r ∧ Q (.done (.ret (.bool (!r)))) s') E s) :
    wpAny (model prog w) A (Builtin.«object.__ne__» ⟨[.ref x, b], []⟩) Q E s := by
  unfold Builtin.«object.__ne__»
  repeat (first
    | with_reducible refine wpAny_cRoomFor hu ?_
    | (refine wpAny_bind (m := callSpecialIfBound? (.ref x) (Str.ofString "__eq__") [b])
        (PySem.W.ifBound_K X I hs hf (wpAny_mono hcall (fun r s' hr => by
          obtain ⟨b, rfl, hq⟩ := hr
          repeat (first | exact hq | exact wpAny_pure hq | exact wpAny_truthy_bool hq | (refine wpAny_bind (m := truthy (.bool _)) (wpAny_truthy_bool ?_)) | wp_step)) fun _ _ e => e)))
    | wp_step)
theorem ne_K {Q : Value → Shared → Prop} (hu : A.units + 1 < cLine) (F : Fr h₀ L s.heap m) (X₀ : K.In h₀) (I : PySem.W.InstAt s.heap x ox C od) (hb : PySem.W.Looks (model prog w) s.heap (typeOf b) tb) (hn : PySem.W.notFirst K C tb = true)
    (hs : PySem.W.findIn K (.ref C) "__eq__" = some (some (.ref f))) (hf : PySem.W.isFn K (.ref f) = true) (hne : PySem.W.findIn K (.ref C) "__ne__" = some (some (.builtin "object.__ne__"))) (hm : PySem.W.mroIn K C (.type "object") = some true)
    (h : wpAny (model prog w) A.in1 (call (.ref f) [.ref x, b]) (fun v s' => ∃ r, v = .bool r ∧ Q (.bool (!r)) s') E s) : wpAny (model prog w) A (richCompare .NotEq (.ref x) b) Q E s := by
  have X := X₀.keeps F.keep
  have sub : PySem.W.Looks (model prog w) s.heap (isInstance (.ref x) (.type "object")) true := I.type.andThen (PySem.W.looks_mroIn X hm)
  have one : wpAny (model prog w) A (tryCompare (.ref x) (cmpInfo .NotEq).2.1 b) (fun r s' => ∃ v, r = some v ∧ Q v s') E s := by
    unfold tryCompare
    refine wpAny_bind (ifBound_ne X I hne (wpAny_call (codeAny_call_builtin PySem.F.cmp_object.ne.plain PySem.F.cmpEntry_ne
      (@PySem.W.check_slot (model prog w) _ _ s "object.__ne__" "object" "__ne__" (.ref x) [b] [] _ PySem.F.cmpKind_ne PySem.F.cmpSplit_ne sub (PySem.F.cmpArgs_ne _ _) ?_))))
    refine ne_entry (A := A.in1) X I hs hf hu (wpAny_mono h (fun v s' hv => ?_) fun _ _ e => e)
    obtain ⟨r, rfl, hq⟩ := hv
    exact ⟨r, rfl, wpAny_pure ⟨_, rfl, hq⟩⟩
  unfold richCompare
  simp only [oneThing_ref]
  refine wpAny_holding (wpAny_bind (wpAny_cRoomFor (Nat.lt_of_succ_lt hu) ?_))
  refine wpAny_bind (I.type.here (wpAny_bind (hb.here ?_)))
  split
  · rename_i q
    have e : PySem.W.subIn K tb (.ref C) = some false := by
      rcases Bool.or_eq_true_iff.mp hn with e | e
      · rw [beq_iff_eq.mp e] at q; simp at q
      · exact beq_iff_eq.mp e
    refine wpAny_bind ((PySem.W.looks_subIn X e).here ?_)
    simp only [Bool.false_eq_true, if_false]
    refine wpAny_bind (wpAny_mono one (fun r s' z => ?_) fun _ _ e => e)
    obtain ⟨v, rfl, hq⟩ := z
    exact wpAny_pure hq
  · refine wpAny_bind (wpAny_pure ?_)
    simp only [Bool.false_eq_true, if_false]
    refine wpAny_bind (wpAny_mono one (fun r s' z => ?_) fun _ _ e => e)
    obtain ⟨v, rfl, hq⟩ := z
    exact wpAny_pure hq
end
/-- what stands on the right, with its type -/
inductive RTy (H : Hp) : V → Value → Prop
  | int (i : Int) : RTy H (.int i) (.type "int")
  | str (z : Str) : RTy H (.str z) (.type "str")
  | ins {b C dx : Addr} {fs : List (Str × V)} (h : H b = some (.ins C dx fs)) : RTy H (.ref b) (.ref C)
  | tup {b : Addr} {xs : List V} (h : H b = some (.tup xs)) : RTy H (.ref b) (.type "tuple")
/-- the class's own __eq__, and no __ne__ of its own -/
structure EqC (K : PySem.W.Frag) (C f : Addr) : Prop where
  at_ : PySem.W.findIn K (.ref C) "__eq__" = some (some (.ref f))
  fn : PySem.W.isFn K (.ref f) = true
  ne : PySem.W.findIn K (.ref C) "__ne__" = some (some (.builtin "object.__ne__"))
  ob : PySem.W.mroIn K C (.type "object") = some true
  nf : ∀ t : String, (t == "int" || t == "str" || t == "tuple") = true → PySem.W.notFirst K C (.type t) = true
section
variable {X : Cx} {CX : CXT} {C f : Addr} {n : Nat} {sp : Sp} {E : XK} {fd : FuncData} {ps : List Str}
theorem rty_looks {pins : List (Addr × Obj)} {σ : L2.St} {H : Hp} {s : Shared} {y : V} {u t : Value} (I : Inv X pins σ H s) (r : L2.RelV y u) (h : RTy H y t) : PySem.W.Looks (model X.prog X.w) s.heap (typeOf u) t := by
  cases h with
  | int i =>
    obtain ⟨k, rfl⟩ := (show ∃ t, u = Value.int i t from r)
    exact PySem.W.Looks.of_pure rfl
  | str z =>
    obtain ⟨k, rfl⟩ := (show ∃ t, u = Value.str z t from r)
    exact PySem.W.Looks.of_pure rfl
  | ins h =>
    cases (show u = Value.ref _ from r)
    obtain ⟨od, mA, J, _⟩ := ins_inst I h
    exact J.type
  | tup h =>
    cases (show u = Value.ref _ from r)
    obtain ⟨_, its, rv, ob, e, c⟩ := I.hok _ _ h
    exact fun A Q E s k q => wpAny_typeOf_ref (k _ _ e) (by rw [c.1]; exact q)
/-- x op y, op == or != -/
def rEqK (C : Addr) (K : PySem.W.Frag) (sp : Sp) (E : XK) : R2 := fun x y H Q => ∃ a dx fs t, x = .ref a ∧ H a = some (.ins C dx fs) ∧ RTy H y t ∧ PySem.W.notFirst K C t = true ∧ sp [x, y] H Q E
def rNeK (C : Addr) (K : PySem.W.Frag) (sp : Sp) (E : XK) : R2 := fun x y H Q => ∃ a dx fs t, x = .ref a ∧ H a = some (.ins C dx fs) ∧ RTy H y t ∧ PySem.W.notFirst K C t = true ∧ sp [x, y] H (fun v H' => ∃ b, v = .bl b ∧ Q (.bl (!b)) H') E
theorem op_eqK (O : EqC X.K C f) (F : FnR X.prog X.w X.K X.mg X.base CX n f sp) (hr : Room n X.A) (hx : Passes CX X E) : OpR X (compareOp .Eq) (rEqK C X.K sp E) := by
  intro pins s σ H x y v u Q I rx ry h
  obtain ⟨a, dx, fs, t, rfl, ha, hy, nf, q⟩ := h
  cases (show v = Value.ref a from rx)
  obtain ⟨od, mA, J, _⟩ := ins_inst I ha
  obtain ⟨m, hF⟩ := I.fr
  show wpAny _ _ (richCompare .Eq _ _) _ _ _
  refine PySem.W.cmp_K (op := .Eq) (tb := t) hr.units0 hF I.ok.mod.kin J (rty_looks I ry hy) nf O.at_ O.fn ?_
  refine wpAny_mono (wpAny_call (run_fnR (us := [.ref a, u]) (vs := [.ref a, y]) F hr hx I (.cons rfl (.cons ry .nil)) q)) (fun w s' z => ?_) fun _ _ x => x
  obtain ⟨z', H', I', rz, qz⟩ := z
  exact SlX.cmpback rz ⟨z', H', I', rz, qz⟩
theorem op_neK (O : EqC X.K C f) (F : FnOk X.prog X.w X.K X.mg X.base CX n f fd ps sp) (hb : Binds X.K fd ps []) (hr : Room (n + 1) X.A) (hx : Passes CX X E) : OpR X (compareOp .NotEq) (rNeK C X.K sp E) := by
  intro pins s σ H x y v u Q I rx ry h
  obtain ⟨a, dx, fs, t, rfl, ha, hy, nf, q⟩ := h
  cases (show v = Value.ref a from rx)
  obtain ⟨od, mA, J, _⟩ := ins_inst I ha
  obtain ⟨m, hF⟩ := I.fr
  show wpAny _ _ (richCompare .NotEq _ _) _ _ _
  refine ne_K (tb := t) (by have := hr.un; omega) hF I.ok.mod.kin J (rty_looks I ry hy) nf O.at_ O.fn O.ne O.ob ?_
  have e0 : Env0 X.prog X.w X.K X.mg X.base X.A.in1 X.stack s H := by
    have e := I.env0
    exact ⟨e.frames, e.mod, e.bs, e.bsz, e.funs, e.frf, e.hok, e.bare⟩
  have hl := F.len _ _ _ _ q
  have r2 : Vals [V.ref a, y] [Value.ref a, u] := .cons rfl (.cons ry .nil)
  refine wpAny_call (codeAny_mono (F.run X.A.in1 X.stack s H ⟨[.ref a, u], []⟩ [.ref a, u] [.ref a, y] _ E hr.in1 e0 (by
    have := hb s [.ref a, u] I.kIn (by simpa using hl)
    simpa using this) r2 q) fun r s' hq => ?_)
  cases r with
  | error e => exact hx pins σ H s e s' I hq
  | ok fl =>
    cases fl with
    | ret w =>
      obtain ⟨z, H', I', rz, b, rfl, qz⟩ := I.after hq
      obtain rfl : w = Value.bool b := rz
      exact ⟨b, rfl, .bl (!b), H', I', rfl, qz⟩
    | next => exact False.elim hq
    | brk => exact False.elim hq
    | cont => exact False.elim hq
end
end G
namespace L2
open PySem PySem.Spec PyProof.Rows
theorem FunD.okX {P : Program} {w : World} {K : PySem.W.Frag} {mg : Str → Option Value} {base : Heap} {x qual : Str} {params : Arguments} {body : List Stmt} {scope : Scope} {dvs : List V} {kws : List (Str × V)} {f : Addr} {fd : FuncData} {N ps : List Str} {k : Nat} {sp : Sp}
    (F : FunD K x qual params body scope dvs kws f fd) (S : FnScope N ps scope) (len : ∀ vs H Q E, sp vs H Q E → vs.length = ps.length)
    (hbody : ∀ (cdv : Value) (A : Around) (outer : List Env) (s : Shared) (H : Hp) (vs : List V) (Q : VK) (E : XK), Room k (A.deeper (envOfC qual scope s.heap.objs.size f cdv)) → sp vs H Q E →
      ∃ t, PSs (cxOf (L2.CX P w) P w K mg base N qual scope f cdv A outer s H E) body t ∧ t { nx := fun _ H' => Q .non H', rt := Q } (start N vs) H) : FnOk P w K mg base (L2.CX P w) (k + 1) f fd ps sp :=
  F.ok S len hbody
end L2

namespace G
open PySem PySem.Spec PyProof.Rows L2
/-- an operator that a class has for its own instances alone -/
structure OpS (K : PySem.W.Frag) (C f : Addr) (nm : String) : Prop where
  first : PySem.W.selfFirst K C = true
  has : PySem.W.findIn K (.ref C) (PySem.dunder nm) = some (some (.ref f))
  isF : PySem.W.isFn K (.ref f) = true
section
variable {X : Cx} {CX : CXT} {C f : Addr} {n : Nat} {sp : Sp} {E : XK}
theorem op_binS {op : Operator} (O : OpS X.K C f op.info.2) (F : FnR X.prog X.w X.K X.mg X.base CX n f sp) (hr : Room n X.A) (hx : Passes CX X E) : OpR X (binaryOp op) (rBinK C sp E) := by
  rintro pins s σ H x y v u Q I rx ry ⟨a, b, dx, dy, fs, gs, rfl, rfl, ha, hb, q⟩
  cases (show v = Value.ref a from rx)
  cases (show u = Value.ref b from ry)
  obtain ⟨_, _, J, _⟩ := ins_inst I ha
  obtain ⟨_, _, J', _⟩ := ins_inst I hb
  obtain ⟨m, hF⟩ := I.fr
  apply PySem.W.binop_K hF I.ok.mod.kin J J'.type O.first O.has O.isF
  apply wpAny_mono (wpAny_call (run_fnR (us := [.ref a, .ref b]) (vs := [.ref a, .ref b]) F hr hx I (.cons rfl (.cons rfl .nil)) q))
  · rintro w s' ⟨z', H', I', rz, qz⟩
    exact SlX.cmpback rz ⟨z', H', I', rz, qz⟩
  · exact fun _ _ z => z
end
theorem op_or {X : Cx} {op : Value → Value → Sem Value} {R1 R2 : L2.R2} (h1 : OpR X op R1) (h2 : OpR X op R2) : OpR X op (fun x y H Q => R1 x y H Q ∨ R2 x y H Q) := by
  rintro pins s σ H x y v u Q I rx ry (h | h)
  · exact h1 pins s σ H x y v u Q I rx ry h
  · exact h2 pins s σ H x y v u Q I rx ry h
theorem red_cross {n u : Int} (h : u ≠ 0) : rNum n u * u = n * rUnd n u := by
  have e1 := num_mul (n := n) h
  have e2 := und_mul (n := n) h
  generalize byOf n u = g at *
  generalize rNum n u = m at *
  generalize rUnd n u = t at *
  subst e1
  have : m * (g * t) = g * m * t := by grind
  rw [← this, e2]
theorem absmul {a b : Int} {x y : Nat} (ha : a.natAbs ≤ x) (hb : b.natAbs ≤ y) : (a * b).natAbs ≤ x * y := by
  rw [Int.natAbs_mul]
  exact Nat.mul_le_mul ha hb
/-- one and the same object, or plain values that are equal: what stands in the tuple of an error and in that of the law -/
def DOne : Eqv := fun x y H => DFlat x y H ∨ ∃ a, x = .ref a ∧ y = .ref a
theorem mon_one : Mon DOne := fun x y H H' e d => d.imp (fun d => mon_flat x y H H' e d) id
theorem eqG_one {X : Cx} : EqG X 0 DOne := fun A pins s σ H x y u v sb I rx ry d => by
  rcases d with d | ⟨a, rfl, rfl⟩
  · exact eqG_flat A pins s σ H x y u v sb I rx ry d
  · cases (show u = Value.ref a from rx)
    cases (show v = Value.ref a from ry)
    exact SeqAt.EqAt.same (A := A) (s := s) (.ref a) X.prog X.w X.xe _ ⟨rfl, H, I, Ext.rfl'⟩
/-- == of two tuples of such items: they are equal -/
theorem op_eqOne {X : Cx} (hr : Room 1 X.A) : OpR X (compareOp .Eq) (rEqG (DTup X.K DOne)) := op_eqG (rcG_tup mon_one eqG_one) hr
/-- one fraction, by its cross products -/
theorem rat_same {a b c d : Int} (hb : b ≠ 0) (hd : d ≠ 0) (h : a * d = c * b) : rNum a b = rNum c d ∧ rUnd a b = rUnd c d := by
  have r1 := red_of (n := a) hb
  have r2 := red_of (n := c) hd
  have e1 := num_mul (n := a) hb
  have e2 := und_mul (n := a) hb
  have e3 := num_mul (n := c) hd
  have e4 := und_mul (n := c) hd
  have g1 := byOf_ne (n := a) hb
  have g2 := byOf_ne (n := c) hd
  generalize byOf a b = g at e1 e2 g1
  generalize byOf c d = k at e3 e4 g2
  generalize rNum a b = n at *
  generalize rUnd a b = u at *
  generalize rNum c d = m at *
  generalize rUnd c d = t at *
  have x : n * t = m * u := by
    have z : (g * k) * (n * t) = (g * k) * (m * u) := by
      rw [← e1, ← e2, ← e3, ← e4] at h
      grind
    exact Int.eq_of_mul_eq_mul_left (Int.mul_ne_zero g1 g2) z
  have d1 : u.natAbs ∣ t.natAbs := by
    refine Nat.Coprime.dvd_of_dvd_mul_left (m := n.natAbs) (Nat.Coprime.symm r1.one) ?_
    rw [← Int.natAbs_mul, x, Int.natAbs_mul]
    exact Nat.dvd_mul_left _ _
  have d2 : t.natAbs ∣ u.natAbs := by
    refine Nat.Coprime.dvd_of_dvd_mul_left (m := m.natAbs) (Nat.Coprime.symm r2.one) ?_
    rw [← Int.natAbs_mul, ← x, Int.natAbs_mul]
    exact Nat.dvd_mul_left _ _
  have eu : u = t := by
    have := Nat.dvd_antisymm d1 d2
    have := r1.pos
    have := r2.pos
    omega
  subst eu
  exact ⟨Int.eq_of_mul_eq_mul_right (by have := r1.pos; omega) x, rfl⟩
end G

namespace G
open PySem PySem.Spec PyProof.Rows L2
section
variable {X : Cx} {elt tg iter : Expr} {scope : Scope} {own : List (Str × Nat)} {pos : Pos} {wi : TI} {g : TG} {te : L2.St → TE}
theorem lcC_core {pins : List (Addr × Obj)} {s : Shared} {σ : L2.St} {H : Hp} {Q : VK} {pos1 : Pos} {use : Option (Value → Sem Unit)} {Qf : Value → Shared → Prop} (hc : X.calm = true) (hN : X.N.Nodup) (I : Inv X pins σ H s) (hi : PI X tg iter wi) (ok : BlkOk X.N X.env.scope scope own)
    (hg : ∀ (s : Shared) (H : Hp) (C : Addr) (cl : List (Str × Addr)) (fp : List Addr), PG (X.blk s H scope (compEnvC scope cl C X.env) fp) tg g)
    (he : ∀ (pins : List (Addr × Obj)) (σ : L2.St) (s : Shared) (H : Hp) (C : Addr) (cl : List (Str × Addr)) (fp : List Addr), Inv X pins σ H s → (∀ b ∈ fp, FpOk X pins H b) → PE (X.blk s H scope (compEnvC scope cl C X.env) fp) elt (te σ))
    (hs : ∀ x, foldedSetIterable iter X.env x = pure x) (h : tLc wi g tYes (te σ) (own.map (·.2)) σ H Q)
    (hRR : ∀ D C s' m H', Inv X pins σ H' s' → Q (.ref D) H' → s'.heap.Ns C m → FpOk X pins H' C → compPost (model X.prog X.w) X.A X.xe use Qf (.ref D) C (.ok .next) s') :
    wpAny (model X.prog X.w) X.A (comprehension (.ListComp elt [⟨tg, iter, [], 0⟩] scope pos) scope X.env pos1 (newList []) false (eval iter X.env) use) Qf X.xe s := by
  have caught : ∀ y ∈ scope.names, y.2 = .free → ∃ c, X.env.cells.lookup y.1 = some c := fun y hy e => (ok.free y hy e).elim (fun k => I.ok.has _ (.inl k)) fun k => I.ok.has _ (.inr k)
  apply wpAny_comprehension_free (use := use) rfl hs (closure_ok caught) ok.kind (fun y hy e => by rw [ok.uniq y hy, e])
  apply thn (hi.run pins s σ H _ I h)
  intro v s1 h1
  apply thn h1
  rintro itv s2 ⟨it, fp, tn, J, H2, rfl, I2, T, st2, f2, q⟩
  apply wpAny_newObj_type _ (by show 0 ≤ sizeLine; decide)
  apply newEnv_comp
  -- the list that is to be filled
  obtain ⟨W, ⟨m0, w0⟩, turn⟩ := q s2.heap.objs.size (I2.hok.fresh (Nat.le_refl _))
  let L : Addr := s2.heap.objs.size
  let s3 : Shared := { s2 with heap := s2.heap.push { cls := .type "list", data := .seq ([] : List Value).toArray } }
  let H3 : Hp := upd H2 L (.lst [])
  have up : ∀ b o, s2.heap.get? b = some o → s3.heap.get? b = some o := fun b o e => Heap.get?_push_of_some _ e
  have I3 : Inv X pins σ H3 s3 := I2.laid (t' := s2.toks) up (Nat.le_refl _) ⟨Nat.zero_le _, [], 0, .nil, Heap.get?_push_size _ rfl⟩
  have old : ∀ b ∈ fp, b < s2.heap.objs.size := fun b hb => by
    obtain ⟨o, e, _⟩ := T.obj _ _ st2 b hb
    exact Heap.lt_size e
  have z3 : s3.heap.objs.size = s2.heap.objs.size + 1 := Heap.size_push ..
  have f3 : ∀ b ∈ fp, FpOk X pins H3 b := fun b hb => ⟨(upd_ne (Nat.ne_of_lt (old b hb))).trans (f2 b hb).1, (f2 b hb).2⟩
  have I4 := block_start I3 ok hN fun b hb => ⟨f3 b hb, Nat.lt_of_lt_of_le (old b hb) (by rw [z3]; exact Nat.le_succ _)⟩
  let B : Cx := X.blk s3 H3 scope (inEnv X scope s3.heap.objs.size) fp
  have st3 : tn 0 s3.heap := T.keep _ _ _ st2 fun b _ o e => up b o e
  let s4 : Shared := { s3 with heap := pushCells (s3.heap.push { cls := .type "dict", data := .dict #[] }) scope.names }
  have st4 : tn 0 s4.heap := T.keep _ _ _ st3 fun b _ o e => pushCells_keeps _ _ _ _ (Heap.get?_push_of_some _ e)
  replace I4 : Inv B [] (wipe σ (own.map (·.2))) H3 s4 := I4
  have mine : ∀ {σ' : L2.St} {H' : Hp} {s' : Shared}, Inv B [] σ' H' s' → (∀ b ∈ fp, H' b = none) → ∀ b ∈ fp, FpOk B [] H' b := fun J n b hb =>
    ⟨n b hb, (J.ok.exf b hb).1, J.ok.exfs b hb, .inl hb, fun x c e => (J.ok.exf b hb).2 x c e, fun p hp => nomatch (show p ∈ ([] : List (Addr × Obj)) from hp)⟩
  show codeAny _ _ (.compStart _ 0 (.ref it) (.ref L) (inEnv X scope s3.heap.objs.size)) _ s4
  have all : codeAny (model X.prog X.w) X.A (.compLoop (.ListComp elt [⟨tg, iter, [], 0⟩] scope pos) 0 (.ref it) (.ref L) (inEnv X scope s3.heap.objs.size)) (compPost (model X.prog X.w) X.A X.xe use Qf (.ref L) s3.heap.objs.size) s4 := by
    apply compLoop_any (Between B (own.map (·.2)) σ fp tn W) _ m0 ⟨0, H3, I4, st4, fun b hb => (f3 b hb).1, w0⟩
    rintro n s5 ⟨i, H5, I5, st5, n5, w5⟩
    rcases turn i n H5 w5 with ⟨stop, fin⟩ | ⟨go, Nx, hNx, step⟩
    · -- no item left
      apply thnF (T.done B rfl rfl rfl hc i [] s5 _ H5 (fun _ _ => False) I5 (mine I5 n5) st5 stop)
      rintro r s6 ⟨rfl, I6⟩
      have I7 : Inv X pins σ H5 s6 := I3.call' (ch := fp) I6.os I6.base I6.hok I6.bare fun b hb => ⟨(f3 b hb).2.2.2.1, (f3 b hb).2.1, (f3 b hb).2.2.2.2.1, (f3 b hb).2.2.2.2.2⟩
      obtain ⟨m, hn, _⟩ := I6.loc
      exact hRR L _ s6 m H5 I7 fin hn (I3.fpOk (Nat.le_refl _) (show H5 s3.heap.objs.size = none from I6.free))
    · -- one more
      apply thnF (T.item B rfl rfl rfl hc i [] s5 _ H5 (fun _ _ => False) I5 (mine I5 n5) st5 go)
      rintro r s6 ⟨u, rfl, h6⟩
      apply thnF h6
      rintro _ s7 ⟨x, H7, I7, r7, y7, st7, n7⟩
      have J7 := I7.pinned (mine I7 n7) (T.obj _ _ st7)
      apply thnF ((hg s3 H3 _ _ fp).run _ s7 _ H7 x u _ J7 r7 (step x H7 y7))
      rintro _ s8 ⟨σ8, H8, I8, same, q8⟩
      apply thnF ((pts_nil (X := B)).run _ s8 σ8 H8 _ I8 q8)
      rintro b s9 ⟨H9, I9, q9⟩
      cases b with
      | false =>
        rw [if_neg Bool.false_ne_true] at q9 ⊢
        obtain ⟨m', hm, w'⟩ := hNx _ q9
        exact between_next T I9 st7 same w' hm
      | true =>
        rw [if_pos rfl] at q9 ⊢
        apply thnF ((he pins σ s3 H3 s3.heap.objs.size _ fp I3 f3).run _ s9 σ8 H9 _ I9 q9)
        rintro z s10 ⟨yv, H10, I10, r10, acc, hD, hz, nx⟩
        apply app_ok (X := B) I10 hD hz r10
        intro s11 I11
        obtain ⟨m', hm, w'⟩ := hNx _ nx
        exact between_next T I11 st7 same w' hm
  exact codeAny_compStart_list all (T.self X.A 0 _ _ _ st4 all)
/-- x = [..], the element's rule as in pe_lcC -/
theorem ps_setLcC {i : Nat} {y : Str} {py spos : Pos} (hc : X.calm = true) (hN : X.N.Nodup) (hy : X.N[i]? = some y) (hyl : X.env.scope.names.lookup y = some .local)
    (hsw : swapsWith (.ListComp elt [⟨tg, iter, [], 0⟩] scope pos) (some (.Name y py)) spos.line X.env = pure true) (hi : PI X tg iter wi) (ok : BlkOk X.N X.env.scope scope own)
    (hg : ∀ (s : Shared) (H : Hp) (C : Addr) (cl : List (Str × Addr)) (fp : List Addr), PG (X.blk s H scope (compEnvC scope cl C X.env) fp) tg g)
    (he : ∀ (pins : List (Addr × Obj)) (σ : L2.St) (s : Shared) (H : Hp) (C : Addr) (cl : List (Str × Addr)) (fp : List Addr), Inv X pins σ H s → (∀ b ∈ fp, FpOk X pins H b) → PE (X.blk s H scope (compEnvC scope cl C X.env) fp) elt (te σ))
    (hs : ∀ x, foldedSetIterable iter X.env x = pure x := by intro _; rfl) :
    PS X (.Assign [.Name y py] (.ListComp elt [⟨tg, iter, [], 0⟩] scope pos) spos) (tAsg (fun σ H Q => tLc wi g tYes (te σ) (own.map (·.2)) σ H Q) (gName i)) := by
  constructor
  intro pins s σ H D I h
  rw [exec_Assign_Name_used _ _ _ _ hsw]
  refine wpAny_bind (wpAny_standAt (wpAny_bind ?_))
  refine wpAny_bind (thn (lcC_core (te := te) (use := some (assign (.Name y py) X.env)) (pos1 := firstIterPos [⟨tg, iter, [], 0⟩] pos) (Qf := fun _ s' => SP X pins D .next s') (Q := fun x H1 => gName i x σ H1 D.nx) hc hN I hi ok hg he hs h fun L C s' m H' I' q hn f => ?_) fun _ s' hq => wpAny_pure (wpAny_pure hq))
  show wpAny _ _ (assign (.Name y py) X.env (.ref L)) _ _ _
  refine wpAny_assign_Name (store_ok2 (v := V.ref L) I' hN hy (.inl hyl) rfl (fun s2 I2 ⟨a, sb, ha⟩ => ?_) (.inr hyl))
  obtain ⟨f0, f1, f2, f3, f4, f5⟩ := f
  have apart : C ≠ a := ha.elim (fun z => by rw [z]; exact f1) fun z e => f4 y a z e.symm
  exact ⟨m, hn.sameBut sb apart, fun h3 sb3 => ⟨_, H', I2.turned (t' := s2.toks) (fun b o hb e => (sb3.2 b hb).trans e) f0 f1 f3 f4 f5, q⟩⟩
end
end G

namespace G
open PySem PySem.Spec PyProof.Rows L2

/-! ### zip of a tuple and a list, in either sequence -/
inductive SqKind | li | tu
def SqOf (K : PySem.W.Frag) : SqKind → Hp → Addr → List V → Prop
  | .li => SqL K
  | .tu => SqT K
def ObOf : SqKind → Heap → Addr → Array Value → Prop
  | .li => Heap.IsList
  | .tu => Heap.IsTuple
def ItOf : SqKind → Heap → Addr → Addr → Nat → Prop
  | .li => Heap.IsListIter
  | .tu => Heap.IsTupleIter
def newIt (k : SqKind) (a : Addr) : Obj := match k with
  | .li => { cls := .type "list_iterator", data := .fields #[.ref a, .int 0 0] }
  | .tu => { cls := .type "tuple_iterator", data := .fields #[.ref a, .int 0 0] }
theorem draw (k : SqKind) {prog : Program} {w : World} {A : Around} (hh : A.handled = none) (it a : Addr) (ne : a ≠ it) (its : Array Value) :
    Draws prog w A it [it, a] its.size (fun i v => its[i]? = some v) (fun i h => ItOf k h it a i ∧ ObOf k h a its) := by
  cases k
  · exact Draws.list hh it a ne its
  · exact Draws.tuple hh it a ne its
theorem begin_ (k : SqKind) (a : Addr) (its : Array Value) : Begins (.ref a) (newIt k a) fun h => ObOf k h a its := by
  cases k
  · exact begins_list a its
  · exact begins_tuple a its
theorem SqOf.ob {K : PySem.W.Frag} {k : SqKind} {X : Cx} {pins : List (Addr × Obj)} {σ : L2.St} {H : Hp} {s : Shared} {a : Addr} {xs : List V} (I : Inv X pins σ H s) (hK : X.K = K) (h : SqOf K k H a xs) :
    ∃ its, Vals xs its ∧ ObOf k s.heap a its.toArray ∧ a < s.heap.objs.size := by
  subst hK
  cases k
  · obtain ⟨its, rv, p, _⟩ := I.list h
    exact ⟨its, rv, p.isList, p.lt⟩
  · obtain ⟨its, rv, p, _⟩ := I.tuple h
    obtain ⟨o, ho, _⟩ := id p
    exact ⟨its, rv, p, Heap.lt_size ho⟩
theorem SqOf.inj {K : PySem.W.Frag} {k : SqKind} {X : Cx} {pins : List (Addr × Obj)} {σ : L2.St} {H : Hp} {s : Shared} {a : Addr} {xs ys : List V} (I : Inv X pins σ H s) (hK : X.K = K) (h : SqOf K k H a xs) (g : SqOf K k H a ys) : xs = ys := by
  subst hK
  cases k
  · exact I.list_inj h g
  · exact I.tuple_inj h g
theorem itOf_at {k : SqKind} {h h' : Heap} {it a : Addr} {i : Nat} (x : ItOf k h it a i) (e : ∀ o, h.get? it = some o → h'.get? it = some o) : ItOf k h' it a i := by
  cases k
  · exact Heap.IsListIter.at x e
  · exact Heap.IsTupleIter.at x e
theorem itOf_obj {k : SqKind} {h : Heap} {it a : Addr} {i : Nat} (x : ItOf k h it a i) : ∃ o, h.get? it = some o ∧ ∀ v, o.data ≠ .cell v := by
  cases k
  all_goals
    obtain ⟨o, ho, _, hd⟩ := x
    exact ⟨o, ho, fun v z => by rw [hd] at z; cases z⟩
theorem itOf_new {k : SqKind} {h : Heap} {it a : Addr} (e : h.get? it = some (newIt k a)) : ItOf k h it a 0 := by
  cases k
  all_goals exact ⟨_, e, rfl, rfl⟩
theorem obOf_at {k : SqKind} {h h' : Heap} {a : Addr} {its : Array Value} (x : ObOf k h a its) (e : ∀ o, h.get? a = some o → h'.get? a = some o) : ObOf k h' a its := by
  cases k
  · exact Heap.IsList.at x e
  · exact Heap.IsTuple.at x e
/-- both sequences as they stand at each turn, the items in new pairs -/
def ItM (K : PySem.W.Frag) (k1 k2 : SqKind) (a b : Addr) : It :=
  ⟨fun i H => ∃ (xs ys : List V) (x y : V), SqOf K k1 H a xs ∧ SqOf K k2 H b ys ∧ xs[i]? = some x ∧ ys[i]? = some y,
    fun i H v H' => ∃ T x y, v = .ref T ∧ H T = none ∧ H' = upd H T (.tup [x, y]) ∧ (∀ xs, SqOf K k1 H a xs → xs[i]? = some x) ∧ ∀ ys, SqOf K k2 H b ys → ys[i]? = some y,
    fun i H => ∃ xs ys : List V, SqOf K k1 H a xs ∧ SqOf K k2 H b ys ∧ i ≤ xs.length ∧ i ≤ ys.length ∧ (xs.length = i ∨ ys.length = i)⟩
structure Apart (N a b z TI TO i1 i2 : Addr) : Prop where
  la : a < N
  lb : b < N
  ez : z = N + 4
  eT : TI = N + 2
  eO : TO = N + 3
  e1 : i1 = N
  e2 : i2 = N + 1
theorem Apart.sep {N a b z TI TO i1 i2 : Addr} (h : Apart N a b z TI TO i1 i2) : ZipSep2 z TI TO i1 i2 [i1, a] [i2, b] := by
  obtain ⟨la, lb, rfl, rfl, rfl, rfl, rfl⟩ := h
  have la := Nat.lt_iff_add_one_le.mp la
  have lb := Nat.lt_iff_add_one_le.mp lb
  constructor <;> (try simp only [List.mem_cons, List.not_mem_nil, or_false, ne_eq, true_or, not_or, or_true]) <;> (try constructor) <;> (try (intro z; have z : (_ : Nat) = _ := z; omega))
theorem turn_m {P : Program} {w : World} {K : PySem.W.Frag} {elts : List Expr} {kk : Nat} {tpos : Pos} {k1 k2 : SqKind} {N a b z TI TO i1 i2 : Addr} (D : Apart N a b z TI TO i1 i2) :
    Turn P w K (.Tuple elts kk tpos) (ItM K k1 k2 a b) [z, TI, TO, i1, i2] z (fun i h => IsZip h z TI TO .none ∧ IsTupOf2 h TI (.ref i1) (.ref i2) ∧ (∃ x y, IsTupOf2 h TO x y) ∧ ItOf k1 h i1 a i ∧ ItOf k2 h i2 b i) where
  mem := by simp
  obj := fun i h st c hc => by
    obtain ⟨g1, g2, ⟨x, y, g3⟩, g4, g5⟩ := st
    simp only [List.mem_cons, List.not_mem_nil, or_false] at hc
    rcases hc with q | q | q | q | q <;> rw [q]
    · exact ⟨_, g1, fun v q => nomatch q⟩
    · exact ⟨_, g2, fun v q => nomatch q⟩
    · exact ⟨_, g3, fun v q => nomatch q⟩
    · exact itOf_obj g4
    · exact itOf_obj g5
  keep := fun i h h' st k => by
    obtain ⟨g1, g2, ⟨x, y, g3⟩, g4, g5⟩ := st
    exact ⟨k z (by simp) _ g1, k TI (by simp) _ g2, ⟨x, y, k TO (by simp) _ g3⟩, itOf_at g4 fun o q => k i1 (by simp) o q, itOf_at g5 fun o q => k i2 (by simp) o q⟩
  item := by
    intro X hP hw hK hc i pins s σ H E I hf st hg
    subst hP hw
    obtain ⟨g1, g2, ⟨x0, y0, g3⟩, g4, g5⟩ := st
    obtain ⟨xs, ys, x, y, hqx, hqy, hx, hy⟩ := hg
    obtain ⟨its, rv, p, _⟩ := hqx.ob I hK
    obtain ⟨its2, rv2, p2, _⟩ := hqy.ob I hK
    obtain ⟨u, hu, ru⟩ := rv.get hx
    obtain ⟨u2, hu2, ru2⟩ := rv2.get hy
    have hzl : z < s.heap.objs.size := Heap.lt_size g1
    have S := D.sep
    have lu : i < its.toArray.size := by simpa using (List.getElem?_eq_some_iff.mp hu).1
    have lu2 : i < its2.toArray.size := by simpa using (List.getElem?_eq_some_iff.mp hu2).1
    have hh : X.A.in1.handled = none := I.ok.hd hc
    have n1 : a ≠ i1 := by obtain ⟨la, lb, _, _, _, e1, _⟩ := D; rw [e1]; exact Nat.ne_of_lt la
    have n2 : b ≠ i2 := by obtain ⟨la, lb, _, _, _, _, e2⟩ := D; rw [e2]; exact Nat.ne_of_lt (Nat.lt_succ_of_lt lb)
    refine wpAny_pyNext_zipD2_item S (draw k1 hh i1 a n1 its.toArray) (draw k2 hh i2 b n2 its2.toArray) g1 g2 g3 ⟨g4, p⟩ ⟨g5, p2⟩ lu lu2 fun v1 v2 h' tk ev1 ev2 z' TO' s1' s2' hT hsz hk => ?_
    have ev1 : v1 = u := by
      have z : its.toArray[i]? = some u := by simpa using hu
      rw [z] at ev1
      exact (Option.some.inj ev1).symm
    have ev2 : v2 = u2 := by
      have z : its2.toArray[i]? = some u2 := by simpa using hu2
      rw [z] at ev2
      exact (Option.some.inj ev2).symm
    subst ev1 ev2
    refine ⟨_, rfl, wpAny_letOwnedTupleGo_zip (s := { s with heap := h', toks := tk }) z' fun h'' z'' sb => ?_⟩
    have hT2 : h''.get? s.heap.objs.size = some { cls := .type "tuple", data := .seq #[v1, v2] } := (sb.2 _ (Nat.ne_of_gt hzl)).trans hT
    have new : ObjOk X.prog X.w (upd H s.heap.objs.size (.tup [x, y])) h'' s.heap.objs.size (.tup [x, y]) :=
      ⟨by show 2 ≤ sizeLine; decide, [v1, v2], .cons ru (.cons ru2 .nil), ⟨_, hT2, rfl, _, rfl⟩⟩
    have I1 : Inv X pins σ (upd H s.heap.objs.size (.tup [x, y])) { s with heap := h'', toks := tk } :=
      I.turnedNew (t' := tk) (ch := [z, TI, TO, i1, i2]) (fun c o hb q => (sb.2 c (fun q' => hb (by simp [q']))).trans (hk c o (fun q' => hb (by simp [q'])) (fun q' => hb (by simp [q'])) (fun q' => hb (by simp [q'])) (fun q' => hb (by simp [q'])) q)) hf (Nat.le_refl _) new
    refine ⟨.ref s.heap.objs.size, _, I1, rfl, ⟨_, x, y, rfl, I.hok.fresh (Nat.le_refl _), rfl, fun l hl => by rw [hl.inj I hK hqx]; exact hx, fun l hl => by rw [hl.inj I hK hqy]; exact hy⟩, ⟨z'', ?_, ⟨v1, v2, ?_⟩, ?_, ?_⟩, fun c hcm => ?_⟩
    · exact (sb.2 _ S.TIz).trans (hk _ _ S.TIz S.TITO S.TIi1 S.TIi2 g2)
    · exact (sb.2 _ S.TOz).trans TO'
    · exact itOf_at s1'.1 fun o q => (sb.2 _ S.zi1.symm).trans q
    · exact itOf_at s2'.1 fun o q => (sb.2 _ S.zi2.symm).trans q
    · have hlt : c < s.heap.objs.size := by
        simp only [List.mem_cons, List.not_mem_nil, or_false] at hcm
        rcases hcm with q | q | q | q | q <;> rw [q]
        · exact hzl
        · exact Heap.lt_size g2
        · exact Heap.lt_size g3
        · obtain ⟨_, e, _⟩ := itOf_obj g4; exact Heap.lt_size e
        · obtain ⟨_, e, _⟩ := itOf_obj g5; exact Heap.lt_size e
      rw [upd_ne (Nat.ne_of_lt hlt)]
      exact (hf c hcm).1
  done := by
    intro X hP hw hK hc i pins s σ H E I hf st hg
    subst hP hw
    obtain ⟨g1, g2, ⟨x0, y0, g3⟩, g4, g5⟩ := st
    obtain ⟨xs, ys, hqx, hqy, le1, le2, hend⟩ := hg
    obtain ⟨its, rv, p, _⟩ := hqx.ob I hK
    obtain ⟨its2, rv2, p2, _⟩ := hqy.ob I hK
    have l1 := rv.length
    have l2 := rv2.length
    have S := D.sep
    have hh : X.A.in1.handled = none := I.ok.hd hc
    have n1 : a ≠ i1 := by obtain ⟨la, lb, _, _, _, e1, _⟩ := D; rw [e1]; exact Nat.ne_of_lt la
    have n2 : b ≠ i2 := by obtain ⟨la, lb, _, _, _, _, e2⟩ := D; rw [e2]; exact Nat.ne_of_lt (Nat.lt_succ_of_lt lb)
    refine wpAny_pyNext_zipD2_end S (draw k1 hh i1 a n1 its.toArray) (draw k2 hh i2 b n2 its2.toArray) g1 g2 g3 ⟨g4, p⟩ ⟨g5, p2⟩ (by simp; omega) (by simp; omega) (by simp; omega) fun h' tk hk => ⟨rfl, I.turnedL (t' := tk) (ch := [z, TI, TO, i1, i2]) (fun c o hb q =>
      hk c o (fun q' => hb (by simp [q'])) (fun q' => hb (by simp [q'])) (fun q' => hb (by simp [q'])) (fun q' => hb (by simp [q'])) q) hf⟩
  self := fun A i s Q E st h => wpAny_pyIter_zip st.1 h

def iZipM (K : PySem.W.Frag) (ta : TA) : TI := fun σ H R => ta σ H fun vs H1 => ∃ k1 k2 a b xs ys, vs = [.ref a, .ref b] ∧ SqOf K k1 H1 a xs ∧ SqOf K k2 H1 b ys ∧ R (ItM K k1 k2 a b) H1
theorem pi_zipM {X : Cx} {e e2 : Expr} {ta : TA} {p pos tpos : Pos} {elts : List Expr} {kk : Nat} (hg : Gl X "zip") (hm : X.mg "zip" = none) (ha : PA X [e, e2] ta)
    (hs : starEach [e, e2] X.env = (false, eval e X.env) :: starEach [e2] X.env := by rfl) (hpl : (backTo pos (starEach [e2] X.env)).any (·.1) = false := by rfl) :
    PI X (.Tuple elts kk tpos) (.Call (.Name "zip" p) [e, e2] [] pos) (iZipM X.K ta) := by
  refine ⟨fun pins s σ H R I h => ?_⟩
  refine Call_ (ld_blt I hg hm PyProof.Rows.boot_zip (PyProof.Rows.callWith_type1 (thn (ha.run pos pins s σ H _ I h) fun us s1 ⟨vs, H1, I1, r1, q1⟩ => ?_) hs hpl))
  obtain ⟨k1, k2, a, b, xs, ys, rfl, hqx, hqy, q⟩ := q1
  cases r1 with
  | cons r rr =>
    cases rr with
    | cons r' rr =>
      cases rr
      cases r
      cases r'
      obtain ⟨its, rv, p1, la⟩ := hqx.ob I1 rfl
      obtain ⟨its2, rv2, p2, lb⟩ := hqy.ob I1 rfl
      refine zip_begins2 (begin_ k1 a its.toArray) (begin_ k2 b its2.toArray) p1 p2 fun h' hz hTI hTO h1 h2 hsz hk => wpAny_pyIter_zip hz ?_
      have I2 : Inv X pins σ H1 { s1 with heap := h' } := I1.kept (t' := s1.toks) hk
      refine ⟨s1.heap.objs.size + 4, [s1.heap.objs.size + 4, s1.heap.objs.size + 2, s1.heap.objs.size + 3, s1.heap.objs.size, s1.heap.objs.size + 1], _, _, H1, rfl, I2, turn_m (k1 := k1) (k2 := k2) ⟨la, lb, rfl, rfl, rfl, rfl, rfl⟩, ⟨hz, hTI, ⟨_, _, hTO⟩, itOf_new h1, itOf_new h2⟩, fun c hcm => ?_, q⟩
      have hle : s1.heap.objs.size ≤ c := by
        simp only [List.mem_cons, List.not_mem_nil, or_false] at hcm
        rcases hcm with z | z | z | z | z <;> rw [z]
        · exact Nat.le_add_right _ _
        · exact Nat.le_add_right _ _
        · exact Nat.le_add_right _ _
        · exact Nat.le_refl _
        · exact Nat.le_add_right _ _
      exact I1.fpOk hle (I1.hok.fresh hle)
theorem walk_m {K : PySem.W.Frag} {k1 k2 : SqKind} {a b : Addr} {xs ys : List V} {n : Nat} (hn : n = min xs.length ys.length) : Walk (ItM K k1 k2 a b) n (fun H => SqOf K k1 H a xs ∧ SqOf K k2 H b ys) (YPair (fun i => xs[i]?) (fun i => ys[i]?)) where
  goes := fun i _ hi q => by
    have h1 : i < xs.length := by omega
    have h2 : i < ys.length := by omega
    exact ⟨xs, ys, xs[i], ys[i], q.1, q.2, by simp [h1], by simp [h2]⟩
  stops := fun _ q => ⟨xs, ys, q.1, q.2, by omega, by omega, by omega⟩
  yields := fun i H v H' _ q y => by
    obtain ⟨T, x, z, e1, e2, e3, e4, e5⟩ := y
    exact ⟨T, x, z, e1, e2, e3, e4 xs q.1, e5 ys q.2⟩
end G

namespace My
open PySem PySem.Spec PyProof.Rows L2 G
def topS (i : Nat) : Stmt := PySem.Challenge.pw_seenabout_k04_points.main.body.getD i (.Pass ⟨0, 0, 0, 0⟩)
abbrev s__law_pot : Stmt := topS 25
theorem sc__law_pot : FnScope ["_law_script", "_law_k", "_law_cell", "_law_own", "_law_small"] ["_law_script", "_law_k"] (defScope s__law_pot) := ⟨rfl, rfl, rfl, by decide +kernel, rfl, by decide +kernel, by decide +kernel⟩

abbrev s__law_take : Stmt := topS 26
theorem sc__law_take : FnScope ["_law_pot_here", "_law_upto", "_law_digit", "_law_prime", "_law_blend"] ["_law_pot_here", "_law_upto"] (defScope s__law_take) := ⟨rfl, rfl, rfl, by decide +kernel, rfl, by decide +kernel, by decide +kernel⟩

abbrev s__law_of : Stmt := topS 27
theorem sc__law_of : FnScope ["_law_pot_here", "_law_some"] ["_law_pot_here", "_law_some"] (defScope s__law_of) := ⟨rfl, rfl, rfl, by decide +kernel, rfl, by decide +kernel, by decide +kernel⟩

abbrev s__law_places : Stmt := topS 28
theorem sc__law_places : FnScope ["_law_script", "_law_most"] ["_law_script", "_law_most"] (defScope s__law_places) := ⟨rfl, rfl, rfl, by decide +kernel, rfl, by decide +kernel, by decide +kernel⟩

structure Ad where
  init : Addr
  AboutError : Addr
  BadNumber : Addr
  BadPoint : Addr
  Ratio : Addr
  Point : Addr
  _law_pot : Addr
  _law_take : Addr
  _law_of : Addr
  _law_places : Addr
  _law_told : Addr
  _law_is_int : Addr
  _law_odd : Addr
  _law_common : Addr
  _law_pair : Addr
  _law_ratio_text : Addr
  _law_pair_of : Addr
  _law_drawn : Addr
  _law_with : Addr
  _law_number : Addr
  _law_point : Addr
  _law_is_at : Addr
  _law_made_right : Addr
  _law_odd_right : Addr
  law : Addr
  is_integer : Addr
  is_number : Addr
  as_ratio : Addr
  difference : Addr
  written : Addr
  _has_figures_alone : Addr
  _worth : Addr
  read_ratio : Addr
  read_point : Addr
  check_point : Addr
  Ratio___init__ : Addr
  Ratio_text : Addr
  Ratio___add__ : Addr
  Ratio___radd__ : Addr
  Ratio___sub__ : Addr
  Ratio___rsub__ : Addr
  Ratio___mul__ : Addr
  Ratio___rmul__ : Addr
  Ratio___eq__ : Addr
  Point___init__ : Addr
  Point_text : Addr
  Point_of : Addr
  Point_towards : Addr
  Point___add__ : Addr
  Point___sub__ : Addr
  Point___eq__ : Addr
/-- what isinstance asks of a class of plain instances -/
structure RI (K : PySem.W.Frag) (C : Addr) : Prop where
  ca : PySem.W.findIn K (.ref C) "__class__" = some (some (.builtin "object.__class__"))
  cn : PySem.W.specialIn K (.builtin "object.__class__") "__get__" = some (some (.builtin "getset_descriptor.__get__"))
  ct : PySem.W.takesIn K (.builtin "object.__class__") = some true
  cm : PySem.W.mroIn K C (.type "object") = some true
  ki : PySem.W.kitOne K (.ref C) (.type "int") = some false
  kb : PySem.W.kitOne K (.ref C) (.type "bool") = some false
  ks : PySem.W.kitOne K (.ref C) (.ref C) = some true
  kt : ∀ t ∈ (["int", "bool", "NoneType", "str", "tuple", "list", "dict"] : List String), PySem.W.kitOne K (.type t) (.ref C) = some false
/-- what the top has written -/
structure Txt (K : PySem.W.Frag) (mg : Str → Option Value) (a : Ad) : Prop where
  n_abs : mg "abs" = none
  n_all : mg "all" = none
  n_bool : mg "bool" = none
  n_int : mg "int" = none
  n_isinstance : mg "isinstance" = none
  n_len : mg "len" = none
  n_list : mg "list" = none
  n_max : mg "max" = none
  n_min : mg "min" = none
  n_range : mg "range" = none
  n_repr : mg "repr" = none
  n_divmod : mg "divmod" = none
  n_str : mg "str" = none
  n_zip : mg "zip" = none
  g_AboutError : mg "AboutError" = some (.ref a.AboutError)
  g_BadNumber : mg "BadNumber" = some (.ref a.BadNumber)
  c_BadNumber : EC K a.BadNumber
  i_BadNumber : PySem.W.findIn K (.ref a.BadNumber) "__init__" = some (some (.ref a.init))
  x_BadNumber : PySem.W.exmOne K (.ref a.BadNumber) (.ref a.AboutError) = some true
  t_BadNumber : PySem.W.kitOne K (.ref a.BadNumber) (.ref a.BadNumber) = some true
  g_BadPoint : mg "BadPoint" = some (.ref a.BadPoint)
  c_BadPoint : EC K a.BadPoint
  i_BadPoint : PySem.W.findIn K (.ref a.BadPoint) "__init__" = some (some (.ref a.init))
  x_BadPoint : PySem.W.exmOne K (.ref a.BadPoint) (.ref a.AboutError) = some true
  t_BadPoint : PySem.W.kitOne K (.ref a.BadPoint) (.ref a.BadPoint) = some true
  tI : PySem.W.typeIn K (.ref a.init) = some (.type "function")
  ek : EK K
  eqc : EqC K a.Ratio a.Ratio___eq__
  eqp : EqC K a.Point a.Point___eq__
  g_gcd : mg "gcd" = some (.builtin "math.gcd")
  g_PART : ∃ t, mg "_PART" = some (.int (10 ^ 64) t)
  g_FIG : ∃ t, mg "_FIGURES" = some (.int 64 t)
  g__law_pot : mg "_law_pot" = some (.ref a._law_pot)
  k__law_pot : PySem.W.keepIn K (.ref a._law_pot) = true
  g__law_take : mg "_law_take" = some (.ref a._law_take)
  k__law_take : PySem.W.keepIn K (.ref a._law_take) = true
  g__law_of : mg "_law_of" = some (.ref a._law_of)
  k__law_of : PySem.W.keepIn K (.ref a._law_of) = true
  g__law_places : mg "_law_places" = some (.ref a._law_places)
  k__law_places : PySem.W.keepIn K (.ref a._law_places) = true
  g__law_told : mg "_law_told" = some (.ref a._law_told)
  k__law_told : PySem.W.keepIn K (.ref a._law_told) = true
  g__law_is_int : mg "_law_is_int" = some (.ref a._law_is_int)
  k__law_is_int : PySem.W.keepIn K (.ref a._law_is_int) = true
  g__law_odd : mg "_law_odd" = some (.ref a._law_odd)
  k__law_odd : PySem.W.keepIn K (.ref a._law_odd) = true
  g__law_common : mg "_law_common" = some (.ref a._law_common)
  k__law_common : PySem.W.keepIn K (.ref a._law_common) = true
  g__law_pair : mg "_law_pair" = some (.ref a._law_pair)
  k__law_pair : PySem.W.keepIn K (.ref a._law_pair) = true
  g__law_ratio_text : mg "_law_ratio_text" = some (.ref a._law_ratio_text)
  k__law_ratio_text : PySem.W.keepIn K (.ref a._law_ratio_text) = true
  g__law_pair_of : mg "_law_pair_of" = some (.ref a._law_pair_of)
  k__law_pair_of : PySem.W.keepIn K (.ref a._law_pair_of) = true
  g__law_drawn : mg "_law_drawn" = some (.ref a._law_drawn)
  k__law_drawn : PySem.W.keepIn K (.ref a._law_drawn) = true
  g__law_with : mg "_law_with" = some (.ref a._law_with)
  k__law_with : PySem.W.keepIn K (.ref a._law_with) = true
  g__law_number : mg "_law_number" = some (.ref a._law_number)
  k__law_number : PySem.W.keepIn K (.ref a._law_number) = true
  g__law_point : mg "_law_point" = some (.ref a._law_point)
  k__law_point : PySem.W.keepIn K (.ref a._law_point) = true
  g__law_is_at : mg "_law_is_at" = some (.ref a._law_is_at)
  k__law_is_at : PySem.W.keepIn K (.ref a._law_is_at) = true
  g__law_made_right : mg "_law_made_right" = some (.ref a._law_made_right)
  k__law_made_right : PySem.W.keepIn K (.ref a._law_made_right) = true
  g__law_odd_right : mg "_law_odd_right" = some (.ref a._law_odd_right)
  k__law_odd_right : PySem.W.keepIn K (.ref a._law_odd_right) = true
  g_law : mg "law" = some (.ref a.law)
  k_law : PySem.W.keepIn K (.ref a.law) = true
  g_is_integer : mg "is_integer" = some (.ref a.is_integer)
  k_is_integer : PySem.W.keepIn K (.ref a.is_integer) = true
  g_is_number : mg "is_number" = some (.ref a.is_number)
  k_is_number : PySem.W.keepIn K (.ref a.is_number) = true
  g_as_ratio : mg "as_ratio" = some (.ref a.as_ratio)
  k_as_ratio : PySem.W.keepIn K (.ref a.as_ratio) = true
  g_difference : mg "difference" = some (.ref a.difference)
  k_difference : PySem.W.keepIn K (.ref a.difference) = true
  g_written : mg "written" = some (.ref a.written)
  k_written : PySem.W.keepIn K (.ref a.written) = true
  g__has_figures_alone : mg "_has_figures_alone" = some (.ref a._has_figures_alone)
  k__has_figures_alone : PySem.W.keepIn K (.ref a._has_figures_alone) = true
  g__worth : mg "_worth" = some (.ref a._worth)
  k__worth : PySem.W.keepIn K (.ref a._worth) = true
  g_read_ratio : mg "read_ratio" = some (.ref a.read_ratio)
  k_read_ratio : PySem.W.keepIn K (.ref a.read_ratio) = true
  g_read_point : mg "read_point" = some (.ref a.read_point)
  k_read_point : PySem.W.keepIn K (.ref a.read_point) = true
  g_check_point : mg "check_point" = some (.ref a.check_point)
  k_check_point : PySem.W.keepIn K (.ref a.check_point) = true
  g_Ratio : mg "Ratio" = some (.ref a.Ratio)
  m_Ratio : Mk K a.Ratio a.Ratio___init__
  cl : Cls K a.Ratio
  nN : NoAttr K a.Ratio "number"
  nU : NoAttr K a.Ratio "under"
  ri : RI K a.Ratio
  tR : ∃ p, PropOf K a.Ratio "text" p a.Ratio_text
  o_add : OpC K a.Ratio a.Ratio___add__ a.Ratio___radd__ "add"
  o_sub : OpC K a.Ratio a.Ratio___sub__ a.Ratio___rsub__ "sub"
  o_mul : OpC K a.Ratio a.Ratio___mul__ a.Ratio___rmul__ "mul"
  g_Point : mg "Point" = some (.ref a.Point)
  m_Point : Mk K a.Point a.Point___init__
  clP : Cls K a.Point
  nX : NoAttr K a.Point "x"
  nY : NoAttr K a.Point "y"
  riP : RI K a.Point
  rRP : PySem.W.kitOne K (.ref a.Ratio) (.ref a.Point) = some false
  rPR : PySem.W.kitOne K (.ref a.Point) (.ref a.Ratio) = some false
  tP : ∃ p, PropOf K a.Point "text" p a.Point_text
  oP : SMet K a.Point "of" a.Point_of
  tw : Meth K a.Point "towards" a.Point_towards
  oA : OpS K a.Point a.Point___add__ "add"
  oS : OpS K a.Point a.Point___sub__ "sub"

/-! ### the pot: three ints, of which the last counts -/
def PotAt (H : Hp) (p : Addr) (n : Nat) : Prop := ∃ a b c : Int, H p = some (.lst [.int a, .int b, .int c]) ∧ (0 ≤ a ∧ a < 10 ^ 300) ∧ (0 ≤ b ∧ b < 2 ^ 61) ∧ (0 ≤ c ∧ c ≤ (n : Int))
/-- the heap without the pot -/
noncomputable abbrev wo (p : Addr) (H : Hp) : Hp := mask (fun b => b = p) H
theorem wo_ne {p b : Addr} {H : Hp} (h : b ≠ p) : wo p H b = H b := mask_out h
theorem wo_same {p : Addr} {H : Hp} : wo p H p = none := mask_in rfl
theorem wo_le (p : Addr) (H : Hp) : Same (wo p H) H := mask_le _ _
theorem wo_upd {p : Addr} {H : Hp} {o : HO} : wo p (upd H p o) = wo p H := by
  funext b
  by_cases e : b = p
  · rw [e, wo_same, wo_same]
  · rw [wo_ne e, wo_ne e, upd_ne e]
/-- all but the pot stays, the pot is one still -/
structure Go (p : Addr) (n : Nat) (H H' : Hp) : Prop where
  keep : Same (wo p H) (wo p H')
  pot : PotAt H' p n
theorem Go.trans {p : Addr} {m n : Nat} {H H1 H2 : Hp} (a : Go p m H H1) (b : Go p n H1 H2) : Go p n H H2 := ⟨a.keep.trans b.keep, b.pot⟩
theorem Go.at {p : Addr} {n : Nat} {H H' : Hp} (g : Go p n H H') {b : Addr} {o : HO} (h : H b = some o) (hb : b ≠ p) : H' b = some o := wo_le p H' _ _ (g.keep b o (by rw [wo_ne hb]; exact h))

def spPot (K : PySem.W.Frag) : Sp := fun vs H Q _ => ∃ (s : Addr) (ns : List Int) (k : Int), vs = [.ref s, .int k] ∧ SqL K H s (ns.map V.int) ∧ ns.length ≤ 63 ∧ 0 ≤ k ∧ k ≤ 100 ∧
  ∀ p H', H p = none → Same H H' → PotAt H' p 0 → Q (.ref p) H'
def spTake : Sp := fun vs H Q _ => ∃ (p : Addr) (u : Int) (n : Nat), vs = [.ref p, .int u] ∧ PotAt H p n ∧ n ≤ 100000 ∧ 1 ≤ u ∧ u ≤ 10 ^ 8 ∧
  ∀ d H', 0 ≤ d → d < u → Go p (n + 1) H H' → Q (.int d) H'
def spOf : Sp := fun vs H Q _ => ∃ (p s : Addr) (n : Nat) (xs : List V), vs = [.ref p, .ref s] ∧ s ≠ p ∧ PotAt H p n ∧ n ≤ 100000 ∧ H s = some (.lst xs) ∧ xs ≠ [] ∧ xs.length ≤ 10 ^ 6 ∧
  ∀ x H', x ∈ xs → Go p (n + 1) H H' → Q x H'
def spPlaces (K : PySem.W.Frag) : Sp := fun vs H Q _ => ∃ (s : Addr) (ns : List Int) (m : Int), vs = [.ref s, .int m] ∧ SqL K H s (ns.map V.int) ∧ ns.length ≤ 63 ∧ 1 ≤ m ∧ m ≤ 100 ∧
  ∀ (l : Addr) (n : Nat) (H' : Hp), H l = none → Same H H' → (n : Int) ≤ m → H' l = some (.lst (rgV 0 n)) → Q (.ref l) H'
/-- what is kept but for the pot keeps data that lie elsewhere -/
theorem Go.mask {p : Addr} {n : Nat} {H H' : Hp} {N : Addr → Prop} (g : Go p n H H') (hp : N p) : Same (mask N H) (mask N H') := fun b o h => by
  obtain ⟨nb, e⟩ := mask_some h
  have hb : b ≠ p := fun z => nb (by rw [z]; exact hp)
  rw [mask_out nb]
  exact g.at e hb
theorem Go.is {p : Addr} {n : Nat} {H H' : Hp} {N : Addr → Prop} {G : PyData → Prop} {v : V} (g : Go p n H H') (hp : N p) (x : Is N H G v) : Is N H' G v := let ⟨d, a, y⟩ := x; ⟨d, a.same (g.mask hp), y⟩
theorem Go.of {p : Addr} {n : Nat} {H H1 H' : Hp} (S : Same H H1) (g : Go p n H1 H') : Go p n H H' := ⟨(mask_mono S).trans g.keep, g.pot⟩
theorem PotAt.same {p : Addr} {n : Nat} {H H' : Hp} (S : Same H H') (x : PotAt H p n) : PotAt H' p n := let ⟨a, b, c, h, r⟩ := x; ⟨a, b, c, S _ _ h, r⟩
theorem PotAt.mono {p : Addr} {m n : Nat} {H : Hp} (x : PotAt H p m) (h : m ≤ n) : PotAt H p n := let ⟨a, b, c, e, r1, r2, r3, r4⟩ := x; ⟨a, b, c, e, r1, r2, r3, by omega⟩
theorem PotAt.has {p : Addr} {n : Nat} {H : Hp} (x : PotAt H p n) : H p ≠ none := by obtain ⟨a, b, c, e, _⟩ := x; rw [e]; simp
theorem Go.mono {p : Addr} {m n : Nat} {H H' : Hp} (g : Go p m H H') (h : m ≤ n) : Go p n H H' := ⟨g.keep, g.pot.mono h⟩

/-- any of the odd values: new data -/
def spOdd : Sp := fun vs H Q _ => ∃ (p : Addr) (n : Nat), vs = [.ref p] ∧ PotAt H p n ∧ n ≤ 100000 ∧ ∀ v H', (∀ N, Tr N H → Is N H' (Gd 60 4) v) → Go p (n + 1) H H' → Q v H'
section
variable {P : Program} {w : World} {K : PySem.W.Frag} {mg : Str → Option Value} {base : Heap} {a : Ad}

theorem pow300 : ((10 : Int) ^ (60 : Int).toNat) ^ (5 : Int).toNat = 10 ^ 300 := by
  show ((10 : Int) ^ 60) ^ 5 = 10 ^ 300
  rw [← Int.pow_mul]
theorem cpow1 : CPowW 10 60 := ⟨by decide, by decide, by decide +kernel⟩
theorem cpow2 : CPowW ((10 : Int) ^ (60 : Int).toNat) 5 := ⟨by decide +kernel, by decide, by decide +kernel⟩
theorem cpow3 : CPowW 10 18 := ⟨by decide, by decide, by decide +kernel⟩
theorem mod300 (x : Int) : 0 ≤ x.fmod (10 ^ 300) ∧ x.fmod (10 ^ 300) < 10 ^ 300 := by
  have h : (0 : Int) < 10 ^ 300 := by decide +kernel
  exact ⟨Int.fmod_nonneg_of_pos _ h, Int.fmod_lt_of_pos _ h⟩
theorem cpow_of {i : Int} (h0 : 2 ≤ i) (h : i < 2 ^ 100) : CPowW i 3 := by
  refine ⟨h0, by decide, ?_⟩
  have h1 : i.natAbs < 2 ^ 100 := by omega
  have h2 := PySem.Flt.log2_lt_of (by decide) h1
  have h3 : Builtin.Int.intBits i ≤ i.natAbs.log2 + 1 := by
    unfold Builtin.Int.intBits
    split <;> omega
  omega
theorem b01 (b : Bool) : -(2 ^ 64) < (if b = true then (1 : Int) else 0) ∧ (if b = true then (1 : Int) else 0) < 2 ^ 64 := by cases b <;> decide
theorem own01 {x m : Int} (h : 0 ≤ x ∧ x < m) (b : Bool) : 0 ≤ x * (if b = true then (1 : Int) else 0) ∧ x * (if b = true then (1 : Int) else 0) < m := by
  cases b
  · simp; omega
  · simp; omega
theorem fm {u : Int} (x : Int) (h : 0 < u) : 0 ≤ x.fmod u ∧ x.fmod u < u := ⟨Int.fmod_nonneg_of_pos _ h, Int.fmod_lt_of_pos _ h⟩
theorem ok__law_pot {fd : FuncData} (F : Fun K "_law_pot" "_law_pot" s__law_pot a._law_pot fd) (T : Txt K mg a) :
    Fn P w K mg base CX0 1 a._law_pot fd ["_law_script", "_law_k"] (spPot K) := by
  refine ok F sc__law_pot (fun vs H Q E h => ?len) (fun cdv A outer s H vs Q E hq hr h => ⟨_,
      (Evl.pss_cut (ps_set (i := 2) sc__law_pot.nd rfl (Or.inl rfl) (pe_ifExp (pt_cmpR op_lt (pv 1) (pe_callB call_len_seq (by rfl) T.n_len (by decide +kernel) (pa_cons (pv 0) pa_nil)) (nomark _)) (pe_ix ix_list (pv 0) (pv 1) (fun _ _ => rfl)) (pe_op op_add (pe_op op_mul pe_int (pv 1)) pe_int)))
      (pss_cons (ps_set (i := 3) sc__law_pot.nd rfl (Or.inl rfl) (pe_op op_mul (pe_op op_modN (pe_callTy call_int1 (by rfl) T.n_int (by decide +kernel) (pa_cons (pe_callB call_abs (by rfl) T.n_abs (by decide +kernel) (pa_cons (pv 2) pa_nil)) pa_nil)) (pe_op op_powW (pe_op op_powW pe_int pe_int) pe_int)) (pe_callTy call_int1 (by rfl) T.n_int (by decide +kernel) (pa_cons (pe_cmpR op_ge (pe_callB call_abs (by rfl) T.n_abs (by decide +kernel) (pa_cons (pv 2) pa_nil)) (pe_op op_powW pe_int pe_int) (nomark _)) pa_nil))))
      (pss_cons (ps_set (i := 4) sc__law_pot.nd rfl (Or.inl rfl) (pe_op op_modN (pe_callTy call_int1 (by rfl) T.n_int (by decide +kernel) (pa_cons (pv 2) pa_nil)) pe_int))
      (pss_one (ps_ret (pe_lstS (pa_cons (pv 3) (pa_cons (pe_op op_modN (pe_callTy call_int1 (by rfl) T.n_int (by decide +kernel) (pa_cons (pe_op op_add (pe_op op_add (pe_op op_mul (pv 4) pe_int) (pe_op op_mul (pe_op op_mul pe_int (pv 1)) (pv 1))) pe_int) pa_nil)) pe_int) (pa_cons pe_int pa_nil))))))))), ?body⟩)
  case len => obtain ⟨s, ns, k, rfl, _⟩ := h; rfl
  case body =>
    obtain ⟨s, ns, k, rfl, hs, hl, hk0, hk1, q⟩ := h
    refine ⟨fun σ' H' => ∃ c : Int, σ' = [some (.ref s), some (.int k), some (.int c), none, none] ∧ H' = H, ?first, ?rest⟩
    case first =>
      refine ⟨_, rfl, _, rfl, _, _, rfl, .inl hs, _, _, rfl, rfl, _, rfl, ite2 (fun c => ?_) (fun c => ?_)⟩
      · have hk : k.toNat < ns.length := by
          have := of_decide_eq_true c
          rw [List.length_map] at this
          omega
        refine ⟨_, rfl, _, rfl, _, _, _, _, rfl, rfl, hs, at_of (j := k.toNat) (v := .int ns[k.toNat]) (by omega) (by rw [List.getElem?_map, List.getElem?_eq_getElem hk]; rfl), ?_⟩
        exact ⟨_, rfl, rfl⟩
      · refine ⟨_, rfl, _, _, rfl, rfl, .inl ⟨by decide, by decide⟩, _, _, rfl, rfl, ?_⟩
        exact ⟨_, rfl, rfl⟩
    case rest =>
      rintro σ' H' ⟨c, rfl, rfl⟩
      have m1 : 0 ≤ c.fmod 2305843009213693951 ∧ c.fmod 2305843009213693951 < 2305843009213693951 := ⟨Int.fmod_nonneg_of_pos _ (by decide), Int.fmod_lt_of_pos _ (by decide)⟩
      refine ⟨_, rfl, _, rfl, .inl ⟨_, rfl, _, _, rfl, rfl, cpow1, _, _, rfl, rfl, cpow2, _, _, rfl, rfl, (by rw [pow300]; show (10 ^ 300 : Int) ≠ 0; decide +kernel), _, rfl, _, rfl, _, _, rfl, rfl, cpow3, _, _, rfl, rfl, .inr ⟨_, rfl, _, _, rfl, rfl, .inr (b01 _), ?_⟩⟩⟩
      refine ⟨_, rfl, .inl ⟨_, rfl, _, _, rfl, rfl, (by show (_ : Int) ≠ 0; decide), ?_⟩⟩
      refine ⟨_, rfl, _, rfl, _, _, rfl, rfl, .inl ⟨by omega, by omega⟩, _, rfl, _, _, rfl, rfl, .inl ⟨by decide, by decide⟩, _, rfl, _, _, rfl, rfl, .inr ⟨by omega, by omega⟩, _, _, rfl, rfl, _, _, rfl, rfl, .inl ⟨_, rfl, _, _, rfl, rfl, (by show (_ : Int) ≠ 0; decide), (by show 3 ≤ sizeLine; decide), fun p h1 s1 => ?_⟩⟩
      refine q p _ h1 (fun b o z => by rw [upd_ne (ne_of_none z h1)]; exact z) ⟨_, _, _, upd_same, ?_, ?_, by decide⟩
      · rw [pow300]
        exact own01 (mod300 _) _
      · exact ⟨Int.fmod_nonneg_of_pos _ (by decide), Int.lt_trans (Int.fmod_lt_of_pos _ (by decide)) (by decide)⟩
theorem ok__law_take {fd : FuncData} (F : Fun K "_law_take" "_law_take" s__law_take a._law_take fd) (T : Txt K mg a) :
    Fn P w K mg base CX0 1 a._law_take fd ["_law_pot_here", "_law_upto"] spTake := by
  refine ok F sc__law_take (fun vs H Q E h => ?len) (fun cdv A outer s H vs Q E hq hr h => ⟨_,
      (pss_cons (ps_if (pt_cmpR op_gt (pe_ix ix_list (pv 0) pe_int (fun _ _ => rfl)) pe_int (nomark _)) (pss_cons (ps_set (i := 2) sc__law_take.nd rfl (Or.inl rfl) (pe_op op_modN (pe_callTy call_int1 (by rfl) T.n_int (by decide +kernel) (pa_cons (pe_ix ix_list (pv 0) pe_int (fun _ _ => rfl)) pa_nil)) (pv 1)))
      (pss_cons (ps_asg (pe_op op_fdivN (pe_ix ix_list (pv 0) pe_int (fun _ _ => rfl)) (pv 1)) (pg_sub (pv 0) pe_int set_list))
      (pss_one (ps_ret (pv 2))))) pss_nil)
      (pss_cons (ps_asg (pe_op op_add (pe_ix ix_list (pv 0) pe_int (fun _ _ => rfl)) pe_int) (pg_sub (pv 0) pe_int set_list))
      (pss_cons (ps_set (i := 3) sc__law_take.nd rfl (Or.inl rfl) (pe_ix ix_list (pe_lstS (pa_cons pe_int (pa_cons pe_int (pa_cons pe_int (pa_cons pe_int (pa_cons pe_int pa_nil)))))) (pe_op op_modN (pe_callTy call_int1 (by rfl) T.n_int (by decide +kernel) (pa_cons (pe_ix ix_list (pv 0) pe_int (fun _ _ => rfl)) pa_nil)) pe_int) (fun _ _ => rfl)))
      (pss_cons (ps_set (i := 4) sc__law_take.nd rfl (Or.inl rfl) (pe_op op_modN (pe_callTy call_int1 (by rfl) T.n_int (by decide +kernel) (pa_cons (pe_op op_powW (pe_callTy call_int1 (by rfl) T.n_int (by decide +kernel) (pa_cons (pe_op op_add (pe_op op_add (pe_ix ix_list (pv 0) pe_int (fun _ _ => rfl)) (pe_op op_mul (pe_op op_mul pe_int (pe_ix ix_list (pv 0) pe_int (fun _ _ => rfl))) (pe_ix ix_list (pv 0) pe_int (fun _ _ => rfl)))) pe_int) pa_nil)) pe_int) pa_nil)) (pv 3)))
      (pss_one (ps_ret (pe_op op_modN (pe_callTy call_int1 (by rfl) T.n_int (by decide +kernel) (pa_cons (pe_op op_fdivN (pe_op op_mul (pv 4) (pe_op op_add (pe_op op_modN (pe_callTy call_int1 (by rfl) T.n_int (by decide +kernel) (pa_cons (pv 4) pa_nil)) pe_int) (pe_op op_mul pe_int (pe_ix ix_list (pv 0) pe_int (fun _ _ => rfl))))) pe_int) pa_nil)) (pv 1)))))))), ?body⟩)
  case len => obtain ⟨p, u, n, rfl, _⟩ := h; rfl
  case body =>
    obtain ⟨p, u, n, rfl, ⟨x, y, z, hp, ⟨hx0, hx1⟩, ⟨hy0, hy1⟩, hz0, hz1⟩, hn, hu0, hu1, q⟩ := h
    refine ⟨_, rfl, p, _, _, _, rfl, rfl, SqL.of hp, rfl, _, _, rfl, rfl, _, rfl, ite2 (fun c => ?_) (fun c => ?_)⟩
    · refine ⟨_, rfl, _, _, _, _, rfl, rfl, SqL.of hp, rfl, .inl ⟨_, rfl, _, rfl, _, _, rfl, rfl, (by omega), _, rfl, _, _, _, _, rfl, rfl, SqL.of hp, rfl, _, rfl, _, _, rfl, rfl, ⟨by omega, by omega⟩, _, rfl, _, _, _, _, rfl, rfl, hp, rfl, _, rfl, ?_⟩⟩
      refine q _ _ (Int.fmod_nonneg_of_pos _ (by omega)) (Int.fmod_lt_of_pos _ (by omega)) ⟨by rw [wo_upd]; exact fun _ _ z => z, _, _, _, upd_same, ?_, ⟨hy0, hy1⟩, hz0, by omega⟩
      have e : x.fdiv u = x / u := Int.fdiv_eq_ediv_of_nonneg _ (by omega)
      show 0 ≤ x.fdiv u ∧ x.fdiv u < 10 ^ 300
      rw [e]
      exact ⟨Int.ediv_nonneg hx0 (by omega), Int.lt_of_le_of_lt (Int.ediv_le_self _ hx0) hx1⟩
    · refine ⟨_, rfl, _, _, _, _, rfl, rfl, SqL.of hp, rfl, _, _, rfl, rfl, _, rfl, _, _, _, _, rfl, rfl, hp, rfl, (by show 5 ≤ sizeLine; decide), fun l hl sl => ?_⟩
      have hp1 : upd H p (.lst [V.int x, V.int y, V.int (z + 1)]) p = some (.lst [V.int x, V.int y, V.int (z + 1)]) := upd_same
      replace hl : upd H p (.lst [V.int x, V.int y, V.int (z + 1)]) l = none := hl
      have npl : p ≠ l := ne_of_none hp1 hl
      have hp2 : upd (upd H p (.lst [V.int x, V.int y, V.int (z + 1)])) l (.lst [V.int 2147483647, V.int 2147483629, V.int 2147483587, V.int 2147483579, V.int 2147483563]) p = some (.lst [V.int x, V.int y, V.int (z + 1)]) := by rw [upd_ne npl]; exact hp1
      have hl2 : upd (upd H p (.lst [V.int x, V.int y, V.int (z + 1)])) l (.lst [V.int 2147483647, V.int 2147483629, V.int 2147483587, V.int 2147483579, V.int 2147483563]) l = some (.lst [V.int 2147483647, V.int 2147483629, V.int 2147483587, V.int 2147483579, V.int 2147483563]) := upd_same
      have keep : Same (wo p H) (wo p (upd (upd H p (.lst [V.int x, V.int y, V.int (z + 1)])) l (.lst [V.int 2147483647, V.int 2147483629, V.int 2147483587, V.int 2147483579, V.int 2147483563]))) := by
        intro b o e
        by_cases hb : b = p
        · rw [hb, wo_same] at e; cases e
        · rw [wo_ne hb] at e ⊢
          have : b ≠ l := by
            rintro rfl
            rw [upd_ne hb, e] at hl
            cases hl
          rw [upd_ne this, upd_ne hb]; exact e
      -- which prime
      obtain ⟨j, hj, ej⟩ : ∃ j : Nat, j < 5 ∧ (z + 1).fmod 5 = (j : Int) := ⟨((z + 1).fmod 5).toNat, by have := Int.fmod_lt_of_pos (z + 1) (show (0 : Int) < 5 by decide); have := Int.fmod_nonneg_of_pos (z + 1) (show (0 : Int) < 5 by decide); omega, by have := Int.fmod_nonneg_of_pos (z + 1) (show (0 : Int) < 5 by decide); omega⟩
      obtain ⟨pr, hpr, at5⟩ : ∃ pr : Int, (2147483563 ≤ pr ∧ pr ≤ 2147483647) ∧ [V.int 2147483647, V.int 2147483629, V.int 2147483587, V.int 2147483579, V.int 2147483563][j]? = some (.int pr) := by
        match j, hj with
        | 0, _ => exact ⟨_, ⟨by decide, by decide⟩, rfl⟩
        | 1, _ => exact ⟨_, ⟨by decide, by decide⟩, rfl⟩
        | 2, _ => exact ⟨_, ⟨by decide, by decide⟩, rfl⟩
        | 3, _ => exact ⟨_, ⟨by decide, by decide⟩, rfl⟩
        | 4, _ => exact ⟨_, ⟨by decide, by decide⟩, rfl⟩
      have zz : 0 ≤ (z + 1) * (z + 1) ∧ (z + 1) * (z + 1) ≤ 100001 * 100001 := ⟨Int.mul_nonneg (by omega) (by omega), Int.mul_le_mul (by omega) (by omega) (by omega) (by omega)⟩
      have e9 : 91027 * (z + 1) * (z + 1) = 91027 * ((z + 1) * (z + 1)) := Int.mul_assoc _ _ _
      refine ⟨_, rfl, _, _, _, _, rfl, rfl, SqL.of hp2, rfl, .inl ⟨_, rfl, _, _, rfl, rfl, (by show (_ : Int) ≠ 0; decide), _, _, _, _, rfl, rfl, SqL.of hl2, at_of ej at5, ?_⟩⟩
      refine ⟨_, rfl, _, _, _, _, rfl, rfl, SqL.of hp2, rfl, _, rfl, _, _, _, _, rfl, rfl, SqL.of hp2, rfl, _, _, rfl, rfl, .inl ⟨by decide, by decide⟩, _, rfl, _, _, _, _, rfl, rfl, SqL.of hp2, rfl, _, _, rfl, rfl, .inl ⟨by omega, by omega⟩, _, _, rfl, rfl, _, _, rfl, rfl, .inl ⟨_, rfl, _, _, rfl, rfl, ?pow, .inl ⟨_, rfl, _, rfl, _, _, rfl, rfl, (by omega), ?_⟩⟩⟩
      case pow => exact cpow_of (by rw [e9]; omega) (by rw [e9]; omega)
      generalize (y + 91027 * (z + 1) * (z + 1) + 69) ^ (3 : Int).toNat = bb
      have mb : 0 ≤ bb.fmod pr ∧ bb.fmod pr < pr := ⟨Int.fmod_nonneg_of_pos _ (by omega), Int.fmod_lt_of_pos _ (by omega)⟩
      refine ⟨_, rfl, _, rfl, .inl ⟨_, rfl, _, _, rfl, rfl, (by show (_ : Int) ≠ 0; decide), _, rfl, _, _, _, _, rfl, rfl, SqL.of hp2, rfl, _, _, rfl, rfl, .inl ⟨by decide, by decide⟩, _, _, rfl, rfl, _, _, rfl, rfl, .inl ⟨by omega, by omega⟩, _, _, rfl, rfl, ⟨by decide, by decide⟩, .inl ⟨_, rfl, _, rfl, _, _, rfl, rfl, (by omega), ?_⟩⟩⟩
      exact q _ _ (Int.fmod_nonneg_of_pos _ (by omega)) (Int.fmod_lt_of_pos _ (by omega)) ⟨keep, _, _, _, hp2, ⟨hx0, hx1⟩, ⟨hy0, hy1⟩, by omega, by omega⟩
theorem ok__law_of {fd : FuncData} (F : Fun K "_law_of" "_law_of" s__law_of a._law_of fd) (T : Txt K mg a)
    {fd__law_take : FuncData} (G__law_take : Fn P w K mg base CX0 1 a._law_take fd__law_take ["_law_pot_here", "_law_upto"] spTake) (b__law_take : Binds K fd__law_take ["_law_pot_here", "_law_upto"] []) :
    Fn P w K mg base CX0 2 a._law_of fd ["_law_pot_here", "_law_some"] spOf := by
  refine ok F sc__law_of (fun vs H Q E h => ?len) (fun cdv A outer s H vs Q E hq hr h => ⟨_,
      (pss_one (ps_ret (pe_ix ix_list (pv 1) (pe_fn G__law_take hq (hr.mono (by omega)) (by rfl) T.g__law_take T.k__law_take b__law_take .nil pass0 (pa_cons (pv 0) (pa_cons (pe_callB call_len_seq (by rfl) T.n_len (by decide +kernel) (pa_cons (pv 1) pa_nil)) pa_nil))) (fun _ _ => rfl)))), ?body⟩)
  case len => obtain ⟨p, s, n, xs, rfl, _⟩ := h; rfl
  case body =>
    obtain ⟨p, s, n, xs, rfl, hsp, pot, hn, hs, hne, hz, q⟩ := h
    have h1 : 1 ≤ xs.length := List.length_pos_iff.mpr hne
    refine ⟨_, rfl, _, rfl, _, rfl, _, _, rfl, .inl (SqL.of hs), ?_⟩
    refine ⟨p, _, n, rfl, pot, hn, by omega, by omega, fun d H1 d0 d1 g => ?_⟩
    have hd : d.toNat < xs.length := by omega
    refine ⟨_, _, _, _, rfl, rfl, SqL.of (g.at hs hsp), at_of (j := d.toNat) (by omega) (List.getElem?_eq_getElem hd), ?_⟩
    exact q _ _ (List.getElem_mem hd) g
theorem ok__law_places {fd : FuncData} (F : Fun K "_law_places" "_law_places" s__law_places a._law_places fd) (T : Txt K mg a) :
    Fn P w K mg base CX0 1 a._law_places fd ["_law_script", "_law_most"] (spPlaces K) := by
  refine ok F sc__law_places (fun vs H Q E h => ?len) (fun cdv A outer s H vs Q E hq hr h => ⟨_,
      (pss_one (ps_ret (pe_listRg rfl (by rfl) T.n_list (prg_1 (by rfl) T.n_range (pe_callB (call_max2 rfl) (by rfl) T.n_max (by decide +kernel) (pa_cons pe_int (pa_cons (pe_callB (call_min2 rfl) (by rfl) T.n_min (by decide +kernel) (pa_cons (pv 1) (pa_cons (pe_callB call_len_seq (by rfl) T.n_len (by decide +kernel) (pa_cons (pv 0) pa_nil)) pa_nil))) pa_nil))))))), ?body⟩)
  case len => obtain ⟨s, ns, m, rfl, _⟩ := h; rfl
  case body =>
    obtain ⟨s, ns, m, rfl, hs, hl, hm0, hm1, q⟩ := h
    refine ⟨_, rfl, _, rfl, _, _, rfl, .inl hs, _, _, rfl, _, _, rfl, _, rfl, RgOk.of_le (by decide) (by rw [List.length_map]; split <;> split <;> omega) (by decide) (by split <;> split <;> omega), fun l h1 => ?_⟩
    obtain ⟨k, ek, hk⟩ : ∃ k : Nat, (if (if ((ns.map V.int).length : Int) < m then ((ns.map V.int).length : Int) else m) > 1 then (if ((ns.map V.int).length : Int) < m then ((ns.map V.int).length : Int) else m) else 1) = (k : Int) ∧ (k : Int) ≤ m := by
      refine ⟨_, (Int.toNat_of_nonneg ?_).symm, ?_⟩
      · split <;> split <;> omega
      · rw [Int.toNat_of_nonneg (by split <;> split <;> omega)]
        split <;> split <;> omega
    refine q l k _ h1 (fun b o z => by rw [upd_ne (ne_of_none z h1)]; exact z) hk (Eq.trans upd_same ?_)
    rw [← ek]
end
end My

namespace My
open PySem PySem.Spec PyProof.Rows L2 G
abbrev s_is_integer : Stmt := topS 11
theorem sc_is_integer : FnScope ["value"] ["value"] (defScope s_is_integer) := ⟨rfl, rfl, rfl, by decide +kernel, rfl, by decide +kernel, by decide +kernel⟩

abbrev s_is_number : Stmt := topS 12
theorem sc_is_number : FnScope ["value"] ["value"] (defScope s_is_number) := ⟨rfl, rfl, rfl, by decide +kernel, rfl, by decide +kernel, by decide +kernel⟩

abbrev s_Ratio___init__ : Stmt := inClass (topS 19) 0
theorem sc_Ratio___init__ : FnScope ["self", "number", "under", "common"] ["self", "number", "under"] (defScope s_Ratio___init__) := ⟨rfl, rfl, rfl, by decide +kernel, rfl, by decide +kernel, by decide +kernel⟩

abbrev s_as_ratio : Stmt := topS 13
theorem sc_as_ratio : FnScope ["number"] ["number"] (defScope s_as_ratio) := ⟨rfl, rfl, rfl, by decide +kernel, rfl, by decide +kernel, by decide +kernel⟩

abbrev s_difference : Stmt := topS 14
theorem sc_difference : FnScope ["one", "other"] ["one", "other"] (defScope s_difference) := ⟨rfl, rfl, rfl, by decide +kernel, rfl, by decide +kernel, by decide +kernel⟩

abbrev s_Ratio___add__ : Stmt := inClass (topS 19) 4
theorem sc_Ratio___add__ : FnScope ["self", "other", "more"] ["self", "other"] (defScope s_Ratio___add__) := ⟨rfl, rfl, rfl, by decide +kernel, rfl, by decide +kernel, by decide +kernel⟩

abbrev s_Ratio___sub__ : Stmt := inClass (topS 19) 6
theorem sc_Ratio___sub__ : FnScope ["self", "other", "less"] ["self", "other"] (defScope s_Ratio___sub__) := ⟨rfl, rfl, rfl, by decide +kernel, rfl, by decide +kernel, by decide +kernel⟩

abbrev s_Ratio___mul__ : Stmt := inClass (topS 19) 8
theorem sc_Ratio___mul__ : FnScope ["self", "other", "times"] ["self", "other"] (defScope s_Ratio___mul__) := ⟨rfl, rfl, rfl, by decide +kernel, rfl, by decide +kernel, by decide +kernel⟩

abbrev s_Ratio___eq__ : Stmt := inClass (topS 19) 16
theorem sc_Ratio___eq__ : FnScope ["self", "other"] ["self", "other"] (defScope s_Ratio___eq__) := ⟨rfl, rfl, rfl, by decide +kernel, rfl, by decide +kernel, by decide +kernel⟩

abbrev ratFs (n u : Int) : List (Str × V) := [("number", .int n), ("under", .int u)]
/-- a Ratio -/
def RatAt (C : Addr) (H : Hp) (v : V) (n u : Int) : Prop := ∃ a dx, v = .ref a ∧ H a = some (.ins C dx (ratFs n u))
theorem RatAt.same {C : Addr} {H H' : Hp} {v : V} {n u : Int} (S : Same H H') (h : RatAt C H v n u) : RatAt C H' v n u := let ⟨a, dx, e, h1⟩ := h; ⟨a, dx, e, S _ _ h1⟩
/-- a number: a Ratio or an int -/
def NumAt (C : Addr) (H : Hp) (v : V) (n u : Int) : Prop := (v = .int n ∧ u = 1) ∨ RatAt C H v n u
theorem NumAt.same {C : Addr} {H H' : Hp} {v : V} {n u : Int} (S : Same H H') (h : NumAt C H v n u) : NumAt C H' v n u := h.imp id fun h => h.same S
def Sm (i : Int) : Prop := -(2 ^ 64) < i ∧ i < 2 ^ 64
def CDivZ (_ j : Int) : Prop := j ≠ 0 ∧ j.natAbs.log2 < 9000
theorem op_fdivZ {X : Cx} : OpR X (binaryOp .FloorDiv) (rI CDivZ fun i j => .int (i.fdiv j)) := opI fun _ _ _ _ _ _ _ hc q => floordiv_int hc.1 q (.inl (PyProof.noPylong_of_log2 hc.2))
def spIsInt (K : PySem.W.Frag) : Sp := fun vs H Q _ => ∃ v t b1 b2, vs = [v] ∧ TyX K H v t ∧ PySem.W.kitOne K t (.type "int") = some b1 ∧ PySem.W.kitOne K t (.type "bool") = some b2 ∧ Q (.bl (b1 && !b2)) H
def spIsNum (K : PySem.W.Frag) (C : Addr) : Sp := fun vs H Q _ => ∃ v t b1 b2 b3, vs = [v] ∧ TyX K H v t ∧ PySem.W.kitOne K t (.type "int") = some b1 ∧ PySem.W.kitOne K t (.type "bool") = some b2 ∧ PySem.W.kitOne K t (.ref C) = some b3 ∧ Q (.bl ((b1 && !b2) || b3)) H
def spInit (K : PySem.W.Frag) (C : Addr) : Sp := fun vs H Q _ => ∃ x dx n u, vs = [.ref x, .int n, .int u] ∧ u ≠ 0 ∧ u.natAbs < 2 ^ 200 ∧ H x = some (.ins C dx []) ∧ Q .non (upd H x (.ins C dx (ratFs (rNum n u) (rUnd n u))))
def spAs (K : PySem.W.Frag) (C : Addr) : Sp := fun vs H Q _ => ∃ v n u, vs = [v] ∧ NumAt C H v n u ∧ ∀ w H', Same H H' → RatAt C H' w n u → Q w H'
def spDiff (C : Addr) : Sp := fun vs H Q _ => ∃ v w n u m t, vs = [v, w] ∧ RatAt C H v n u ∧ RatAt C H w m t ∧ Sm n ∧ Sm u ∧ Sm m ∧ Sm t ∧ Q (.int (n * t - m * u)) H
/-- the four operations, of numbers and of what is below -/
structure Op2 where
  num : Int → Int → Int → Int → Int
  und : Int → Int → Int → Int → Int
def fAdd : Op2 := ⟨fun n u m t => n * t + m * u, fun _ u _ t => u * t⟩
def fSub : Op2 := ⟨fun n u m t => n * t - m * u, fun _ u _ t => u * t⟩
def fMul : Op2 := ⟨fun n _ m _ => n * m, fun _ u _ t => u * t⟩
/-- self op other: a new Ratio -/
def spBin (C : Addr) (f : Op2) : Sp := fun vs H Q _ => ∃ v w n u m t, vs = [v, w] ∧ RatAt C H v n u ∧ NumAt C H w m t ∧ Red n u ∧ Red m t ∧ Sm n ∧ Sm u ∧ Sm m ∧ Sm t ∧
  ∀ z H', Same H H' → RatAt C H' z (rNum (f.num n u m t) (f.und n u m t)) (rUnd (f.num n u m t) (f.und n u m t)) → Q z H'
/-- other op self -/
def spBinR (C : Addr) (f : Op2) : Sp := fun vs H Q _ => ∃ v w n u m t, vs = [v, w] ∧ RatAt C H v n u ∧ NumAt C H w m t ∧ Red n u ∧ Red m t ∧ Sm n ∧ Sm u ∧ Sm m ∧ Sm t ∧
  ∀ z H', Same H H' → RatAt C H' z (rNum (f.num m t n u) (f.und m t n u)) (rUnd (f.num m t n u) (f.und m t n u)) → Q z H'
def spUn (C : Addr) (f : Int → Int) : Sp := fun vs H Q _ => ∃ v n u, vs = [v] ∧ RatAt C H v n u ∧ Red n u ∧ Sm u ∧ ∀ z H', Same H H' → RatAt C H' z (f n) u → Q z H'
def fNeg (n : Int) : Int := -n
def fAbs (n : Int) : Int := if n < 0 then -n else n
def spCmp (C : Addr) (c : Int → Bool) : Sp := fun vs H Q _ => ∃ v w n u m t, vs = [v, w] ∧ RatAt C H v n u ∧ NumAt C H w m t ∧ Sm n ∧ Sm u ∧ Sm m ∧ Sm t ∧ ∀ H', Same H H' → Q (.bl (c (n * t - m * u))) H'
def cLt (d : Int) : Bool := decide (d < 0)
def cLe (d : Int) : Bool := decide (d ≤ 0)
def cGt (d : Int) : Bool := decide (0 < d)
def cGe (d : Int) : Bool := decide (0 ≤ d)
theorem numTy {K : PySem.W.Frag} {mg : Str → Option Value} {a : Ad} (T : Txt K mg a) {H : Hp} {v : V} {n u : Int} (h : NumAt a.Ratio H v n u) :
    ∃ ty b1 b2 b3, TyX K H v ty ∧ PySem.W.kitOne K ty (.type "int") = some b1 ∧ PySem.W.kitOne K ty (.type "bool") = some b2 ∧ PySem.W.kitOne K ty (.ref a.Ratio) = some b3 ∧ ((b1 && !b2) || b3) = true := by
  rcases h with ⟨rfl, _⟩ | ⟨x, dx, rfl, e⟩
  · exact ⟨_, true, false, false, .base (.int _), kit_ty (by decide +kernel), kit_ty (by decide +kernel), T.ri.kt _ (by simp), rfl⟩
  · exact ⟨_, false, false, true, .base (.ins e T.cl T.ri.ca T.ri.cn T.ri.ct T.ri.cm), T.ri.ki, T.ri.kb, T.ri.ks, rfl⟩
theorem mulne {u t : Int} (h : 0 < u) (h' : 0 < t) : u * t ≠ 0 := Int.mul_ne_zero (by omega) (by omega)
theorem log_of {u : Int} (h : u.natAbs < 2 ^ 200) : u.natAbs.log2 < 9000 := Nat.lt_of_lt_of_le (PySem.Flt.log2_lt_of (k := 200) (by decide) h) (by decide)
theorem ratTy {K : PySem.W.Frag} {mg : Str → Option Value} {a : Ad} (T : Txt K mg a) {H : Hp} {v : V} {n u : Int} (h : RatAt a.Ratio H v n u) : TyX K H v (.ref a.Ratio) := by
  obtain ⟨x, dx, rfl, e⟩ := h
  exact .base (.ins e T.cl T.ri.ca T.ri.cn T.ri.ct T.ri.cm)
/-- what is no Ratio -/
def NotR (K : PySem.W.Frag) (C : Addr) (H : Hp) (w : V) : Prop := ∃ t, TyX K H w t ∧ PySem.W.kitOne K t (.ref C) = some false
def spEqq (K : PySem.W.Frag) (C : Addr) : Sp := fun vs H Q _ => ∃ v w n u, vs = [v, w] ∧ RatAt C H v n u ∧ ((∃ m t, RatAt C H w m t ∧ Q (.bl (decide (n = m ∧ u = t))) H) ∨ (NotR K C H w ∧ Q (.bl false) H))
/-- what C(n, u) asks -/
theorem mk_rat {K : PySem.W.Frag} {C : Addr} {H : Hp} {n u : Int} {Q : VK} (h0 : u ≠ 0) (h1 : u.natAbs < 2 ^ 200) (q : ∀ w H', Same H H' → RatAt C H' w (rNum n u) (rUnd n u) → Q w H') :
    ∀ x dx, H x = none → H dx = none → dx ≠ x → spInit K C [.ref x, .int n, .int u] (upd (upd H dx (.own x)) x (.ins C dx [])) (fun v H2 => v = .non ∧ Q (.ref x) H2) E0 := by
  intro x dx hx hdx ne
  refine ⟨x, dx, n, u, rfl, h0, h1, upd_same, rfl, q _ _ (fun b o e => ?_) ⟨x, dx, rfl, upd_same⟩⟩
  rw [upd_ne (ne_of_none e hx), upd_ne (ne_of_none e hx), upd_ne (ne_of_none e hdx)]
  exact e
theorem small200 {u : Int} (h : Sm u) : u.natAbs < 2 ^ 200 := Nat.lt_of_lt_of_le (m := 2 ^ 64) (by obtain ⟨h1, h2⟩ := h; omega) (Nat.pow_le_pow_right (by decide) (by decide))
theorem smul200 {u t : Int} (h : Sm u) (h' : Sm t) : (u * t).natAbs < 2 ^ 200 := by
  refine Nat.lt_of_lt_of_le (m := 2 ^ (64 + 64)) (wide_lt ?_ ?_) (Nat.pow_le_pow_right (by decide) (by decide))
  · obtain ⟨h1, h2⟩ := h; omega
  · obtain ⟨h1, h2⟩ := h'; omega
section
variable {P : Program} {w : World} {K : PySem.W.Frag} {mg : Str → Option Value} {base : Heap} {a : Ad}
theorem ok_is_integer {fd : FuncData} (F : Fun K "is_integer" "is_integer" s_is_integer a.is_integer fd) (T : Txt K mg a) :
    FnOk P w K mg base CX0 1 a.is_integer fd ["value"] (spIsInt K) := by
  refine F.ok sc_is_integer (fun vs H Q E h => ?len) (fun cdv A outer s H vs Q E hr h => ⟨_,
      (pss_one (ps_ret (pe_and (pe_callB call_isi (by rfl) T.n_isinstance (by decide +kernel) (pa_cons (pv 0) (pa_cons (pe_bltn (v := .ty "int") (u := .type "int") (by rfl) T.n_int (by decide +kernel) rfl) pa_nil))) (pe_one (pe_not (pe_callB call_isi (by rfl) T.n_isinstance (by decide +kernel) (pa_cons (pv 0) (pa_cons (pe_bltn (v := .ty "bool") (u := .type "bool") (by rfl) T.n_bool (by decide +kernel) rfl) pa_nil)))))))), ?body⟩)
  case len => obtain ⟨v, t, b1, b2, rfl, _⟩ := h; rfl
  case body =>
    obtain ⟨v, t, b1, b2, rfl, ty, k1, k2, q⟩ := h
    refine ⟨_, rfl, _, _, _, _, b1, rfl, .ty _, ty, k1, b1, rfl, ?_⟩
    cases b1
    · exact iteF q
    · exact iteT ⟨_, rfl, _, _, _, _, b2, rfl, .ty _, ty, k2, b2, rfl, q⟩
theorem ok_is_number {fd : FuncData} (F : Fun K "is_number" "is_number" s_is_number a.is_number fd) (T : Txt K mg a)
    {fd_is_integer : FuncData} (G_is_integer : FnOk P w K mg base CX0 1 a.is_integer fd_is_integer ["value"] (spIsInt K)) (b_is_integer : Binds K fd_is_integer ["value"] []) :
    FnOk P w K mg base CX0 2 a.is_number fd ["value"] (spIsNum K a.Ratio) := by
  refine F.ok sc_is_number (fun vs H Q E h => ?len) (fun cdv A outer s H vs Q E hr h => ⟨_,
      (pss_one (ps_ret (pe_or (pe_call G_is_integer (hr.mono (by omega)) (by rfl) T.g_is_integer T.k_is_integer b_is_integer .nil pass0 (pa_cons (pv 0) pa_nil)) (pe_one (pe_callB call_isi (by rfl) T.n_isinstance (by decide +kernel) (pa_cons (pv 0) (pa_cons (pe_glob (v := .ref a.Ratio) (by rfl) T.g_Ratio rfl) pa_nil))))))), ?body⟩)
  case len => obtain ⟨v, t, b1, b2, b3, rfl, _⟩ := h; rfl
  case body =>
    obtain ⟨v, t, b1, b2, b3, rfl, ty, k1, k2, k3, q⟩ := h
    refine ⟨_, rfl, v, t, b1, b2, rfl, ty, k1, k2, (b1 && !b2), rfl, ?_⟩
    cases hb : (b1 && !b2)
    · rw [hb] at q
      exact iteF ⟨_, rfl, _, _, _, _, b3, rfl, .own _, ty, k3, q⟩
    · rw [hb] at q
      exact iteT q
theorem ok_Ratio___init__ {fd : FuncData} (F : FunD K "__init__" "Ratio.__init__" (defArgs s_Ratio___init__) (defBody s_Ratio___init__) (defScope s_Ratio___init__) [.int 1] [] a.Ratio___init__ fd) (T : Txt K mg a)
    {fd_is_integer : FuncData} (G_is_integer : FnOk P w K mg base CX0 1 a.is_integer fd_is_integer ["value"] (spIsInt K)) (b_is_integer : Binds K fd_is_integer ["value"] []) :
    FnOk P w K mg base CX0 2 a.Ratio___init__ fd ["self", "number", "under"] (spInit K a.Ratio) := by
  refine F.ok sc_Ratio___init__ (fun vs H Q E h => ?len) (fun cdv A outer s H vs Q E hr h => ⟨_,
      (pss_cons (ps_if (PW.pt (pw_or (pt_not (pt_val (pe_call G_is_integer (hr.mono (by omega)) (by rfl) T.g_is_integer T.k_is_integer b_is_integer .nil pass0 (pa_cons (pv 1) pa_nil)))) (pw_or (pt_not (pt_val (pe_call G_is_integer (hr.mono (by omega)) (by rfl) T.g_is_integer T.k_is_integer b_is_integer .nil pass0 (pa_cons (pv 2) pa_nil)))) (pw_or1 (pt_cmpR op_eq (pv 2) pe_int (nomark _)))))) (pss_one ps_never) pss_nil)
      (pss_cons (ps_set (i := 3) sc_Ratio___init__.nd rfl (Or.inl rfl) (pe_ifExp (pt_cmpR op_gt (pv 2) pe_int (nomark _)) (pe_callBfun cr_gcd (by rfl) T.g_gcd (pa_cons (pv 1) (pa_cons (pv 2) pa_nil))) (pe_un un_neg (pe_callBfun cr_gcd (by rfl) T.g_gcd (pa_cons (pv 1) (pa_cons (pv 2) pa_nil))))))
      (pss_cons (ps_fld (pv 0) (pe_op op_fdivZ (pv 1) (pv 3)) rfl)
      (pss_one (ps_fld (pv 0) (pe_op op_fdivZ (pv 2) (pv 3)) rfl))))), ?body⟩)
  case len => obtain ⟨x, dx, n, u, rfl, _⟩ := h; rfl
  case body =>
    obtain ⟨x, dx, n, u, rfl, h0, h1, hx, q⟩ := h
    refine ⟨_, rfl, .int n, .type "int", true, false, rfl, .base (.int _), kit_ty (by decide +kernel), kit_ty (by decide +kernel), _, rfl, iteF ?_⟩
    refine ⟨_, rfl, .int u, .type "int", true, false, rfl, .base (.int _), kit_ty (by decide +kernel), kit_ty (by decide +kernel), _, rfl, iteF ?_⟩
    refine ⟨_, rfl, rfl, _, rfl, ite2 (fun c => ?_) (fun c => ?_)⟩
    · exact absurd (of_decide_eq_true c) (by intro z; injection z with z; exact h0 z)
    have hb : byOf n u ≠ 0 := byOf_ne h0
    have hl : (byOf n u).natAbs.log2 < 9000 := log_of (Nat.lt_of_le_of_lt (byOf_le h0) h1)
    have fin : ∀ g : Int, g = byOf n u → Q .non (upd (upd H x (.ins a.Ratio dx [("number", .int (n.fdiv g))])) x (.ins a.Ratio dx [("number", .int (n.fdiv g)), ("under", .int (u.fdiv g))])) := fun g e => by
      rw [upd_upd, e]
      exact q
    refine ⟨_, rfl, _, _, rfl, rfl, _, rfl, ite2 (fun c2 => ?_) (fun c2 => ?_)⟩
    · have hu : 0 < u := of_decide_eq_true c2
      have e : ((Nat.gcd n.natAbs u.natAbs : Nat) : Int) = byOf n u := by
        unfold byOf
        rw [if_neg (by omega)]
      refine ⟨_, rfl, _, rfl, _, _, rfl, ?_⟩
      refine ⟨_, rfl, _, rfl, _, _, rfl, rfl, ⟨by rw [e]; exact hb, by rw [e]; exact hl⟩, _, rfl, _, _, _, _, rfl, hx, T.cl, T.nN, by decide, ?_⟩
      refine ⟨_, rfl, _, rfl, _, _, rfl, rfl, ⟨by rw [e]; exact hb, by rw [e]; exact hl⟩, _, rfl, _, _, _, _, rfl, upd_same, T.cl, T.nU, (by show 1 < 1000; decide), ?_⟩
      exact fin _ e
    · have hu : ¬ 0 < u := fun z => c2 (decide_eq_true z)
      have e : -((Nat.gcd n.natAbs u.natAbs : Nat) : Int) = byOf n u := by
        unfold byOf
        rw [if_pos (by omega)]
      refine ⟨_, rfl, _, rfl, _, _, rfl, _, rfl, ?_⟩
      refine ⟨_, rfl, _, rfl, _, _, rfl, rfl, ⟨by rw [e]; exact hb, by rw [e]; exact hl⟩, _, rfl, _, _, _, _, rfl, hx, T.cl, T.nN, by decide, ?_⟩
      refine ⟨_, rfl, _, rfl, _, _, rfl, rfl, ⟨by rw [e]; exact hb, by rw [e]; exact hl⟩, _, rfl, _, _, _, _, rfl, upd_same, T.cl, T.nU, (by show 1 < 1000; decide), ?_⟩
      exact fin _ e
theorem ok_as_ratio {fd : FuncData} (F : Fun K "as_ratio" "as_ratio" s_as_ratio a.as_ratio fd) (T : Txt K mg a)
    {fd_Ratio___init__ : FuncData} (G_Ratio___init__ : FnOk P w K mg base CX0 2 a.Ratio___init__ fd_Ratio___init__ ["self", "number", "under"] (spInit K a.Ratio)) (b_Ratio___init__ : Binds K fd_Ratio___init__ ["self", "number", "under"] [])
    {ds_Ratio___init__ : List Value} (d_Ratio___init__ : Vals [.int 1] ds_Ratio___init__ ∧ Binds K fd_Ratio___init__ ["self", "number", "under"] ds_Ratio___init__) :
    FnOk P w K mg base CX0 4 a.as_ratio fd ["number"] (spAs K a.Ratio) := by
  refine F.ok sc_as_ratio (fun vs H Q E h => ?len) (fun cdv A outer s H vs Q E hr h => ⟨_,
      (pss_one (ps_ret (pe_ifExp (pt_val (pe_callB call_isi (by rfl) T.n_isinstance (by decide +kernel) (pa_cons (pv 0) (pa_cons (pe_glob (v := .ref a.Ratio) (by rfl) T.g_Ratio rfl) pa_nil)))) (pv 0) (pe_make T.m_Ratio G_Ratio___init__ (hr.mono (by omega)) (by rfl) T.g_Ratio d_Ratio___init__.2 d_Ratio___init__.1 pass0 (pa_cons (pv 0) pa_nil))))), ?body⟩)
  case len => obtain ⟨v, n, u, rfl, _⟩ := h; rfl
  case body =>
    obtain ⟨v, n, u, rfl, hv, q⟩ := h
    rcases hv with ⟨rfl, rfl⟩ | hv
    · refine ⟨_, rfl, _, _, _, _, false, rfl, .own _, .base (.int _), T.ri.kt _ (by simp), _, rfl, iteF ?_⟩
      refine ⟨_, rfl, mk_rat (by decide) (by decide +kernel) fun w H' S hw => q w H' S ?_⟩
      rw [(red_int n).same.1, (red_int n).same.2] at hw
      exact hw
    · refine ⟨_, rfl, _, _, _, _, true, rfl, .own _, ratTy T hv, T.ri.ks, _, rfl, iteT ?_⟩
      exact ⟨_, rfl, q v H (Same.refl _) hv⟩
theorem ok_difference {fd : FuncData} (F : Fun K "difference" "difference" s_difference a.difference fd) (T : Txt K mg a) :
    FnOk P w K mg base CX0 1 a.difference fd ["one", "other"] (spDiff a.Ratio) := by
  refine F.ok sc_difference (fun vs H Q E h => ?len) (fun cdv A outer s H vs Q E hr h => ⟨_,
      (pss_one (ps_ret (pe_op op_sub (pe_op op_mul (pe_fld (pv 0) rfl) (pe_fld (pv 1) rfl)) (pe_op op_mul (pe_fld (pv 1) rfl) (pe_fld (pv 0) rfl))))), ?body⟩)
  case len => obtain ⟨v, w, n, u, m, t, rfl, _⟩ := h; rfl
  case body =>
    obtain ⟨v, w, n, u, m, t, rfl, ⟨x, dx, rfl, hx⟩, ⟨y, dy, rfl, hy⟩, sn, su, sm, st, q⟩ := h
    refine ⟨_, rfl, _, _, _, _, _, rfl, hx, T.cl, T.nN, rfl, _, rfl, _, _, _, _, _, rfl, hy, T.cl, T.nU, rfl, _, _, rfl, rfl, .inl sn, ?_⟩
    refine ⟨_, rfl, _, _, _, _, _, rfl, hy, T.cl, T.nN, rfl, _, rfl, _, _, _, _, _, rfl, hx, T.cl, T.nU, rfl, _, _, rfl, rfl, .inl sm, ?_⟩
    exact ⟨_, _, rfl, rfl, q⟩
theorem ok_Ratio___add__ {fd : FuncData} (F : Fun K "__add__" "Ratio.__add__" s_Ratio___add__ a.Ratio___add__ fd) (T : Txt K mg a)
    {fd_Ratio___init__ : FuncData} (G_Ratio___init__ : FnOk P w K mg base CX0 2 a.Ratio___init__ fd_Ratio___init__ ["self", "number", "under"] (spInit K a.Ratio)) (b_Ratio___init__ : Binds K fd_Ratio___init__ ["self", "number", "under"] [])
    {ds_Ratio___init__ : List Value} (d_Ratio___init__ : Vals [.int 1] ds_Ratio___init__ ∧ Binds K fd_Ratio___init__ ["self", "number", "under"] ds_Ratio___init__)
    {fd_as_ratio : FuncData} (G_as_ratio : FnOk P w K mg base CX0 4 a.as_ratio fd_as_ratio ["number"] (spAs K a.Ratio)) (b_as_ratio : Binds K fd_as_ratio ["number"] [])
    {fd_is_number : FuncData} (G_is_number : FnOk P w K mg base CX0 2 a.is_number fd_is_number ["value"] (spIsNum K a.Ratio)) (b_is_number : Binds K fd_is_number ["value"] []) :
    FnOk P w K mg base CX0 5 a.Ratio___add__ fd ["self", "other"] (spBin a.Ratio fAdd) := by
  refine F.ok sc_Ratio___add__ (fun vs H Q E h => ?len) (fun cdv A outer s H vs Q E hr h => ⟨_,
      (pss_cons (ps_if (pt_not (pt_val (pe_call G_is_number (hr.mono (by omega)) (by rfl) T.g_is_number T.k_is_number b_is_number .nil pass0 (pa_cons (pv 1) pa_nil)))) (pss_one ps_never) pss_nil)
      (pss_cons (ps_set (i := 2) sc_Ratio___add__.nd rfl (Or.inl rfl) (pe_call G_as_ratio (hr.mono (by omega)) (by rfl) T.g_as_ratio T.k_as_ratio b_as_ratio .nil pass0 (pa_cons (pv 1) pa_nil)))
      (pss_one (ps_ret (pe_make T.m_Ratio G_Ratio___init__ (hr.mono (by omega)) (by rfl) T.g_Ratio b_Ratio___init__ .nil pass0 (pa_cons (pe_op op_add (pe_op op_mul (pe_fld (pv 0) rfl) (pe_fld (pv 2) rfl)) (pe_op op_mul (pe_fld (pv 2) rfl) (pe_fld (pv 0) rfl))) (pa_cons (pe_op op_mul (pe_fld (pv 0) rfl) (pe_fld (pv 2) rfl)) pa_nil))))))), ?body⟩)
  case len => obtain ⟨v, w, n, u, m, t, rfl, _⟩ := h; rfl
  case body =>
    obtain ⟨v, w, n, u, m, t, rfl, hv, hw, rn, rm, sn, su, sm, st, q⟩ := h
    obtain ⟨ty, b1, b2, b3, t1, k1, k2, k3, e⟩ := numTy T hw
    refine ⟨_, rfl, w, ty, b1, b2, b3, rfl, t1, k1, k2, k3, _, rfl, ?_⟩
    rw [e]
    refine iteF ?_
    refine ⟨_, rfl, w, m, t, rfl, hw, fun r H1 S1 hr1 => ?_⟩
    obtain ⟨x, dx, rfl, hx⟩ := hv.same S1
    obtain ⟨y, dy, rfl, hy⟩ := hr1
    refine ⟨_, rfl, _, _, _, _, _, rfl, hx, T.cl, T.nN, rfl, _, rfl, _, _, _, _, _, rfl, hy, T.cl, T.nU, rfl, _, _, rfl, rfl, .inl sn, ?_⟩
    refine ⟨_, rfl, _, _, _, _, _, rfl, hy, T.cl, T.nN, rfl, _, rfl, _, _, _, _, _, rfl, hx, T.cl, T.nU, rfl, _, _, rfl, rfl, .inl sm, _, _, rfl, rfl, ?_⟩
    refine ⟨_, rfl, _, _, _, _, _, rfl, hx, T.cl, T.nU, rfl, _, rfl, _, _, _, _, _, rfl, hy, T.cl, T.nU, rfl, _, _, rfl, rfl, .inl su, ?_⟩
    exact mk_rat (mulne rn.pos rm.pos) (smul200 su st) fun z H' S hz => q z H' (S1.trans S) hz
theorem ok_Ratio___sub__ {fd : FuncData} (F : Fun K "__sub__" "Ratio.__sub__" s_Ratio___sub__ a.Ratio___sub__ fd) (T : Txt K mg a)
    {fd_Ratio___init__ : FuncData} (G_Ratio___init__ : FnOk P w K mg base CX0 2 a.Ratio___init__ fd_Ratio___init__ ["self", "number", "under"] (spInit K a.Ratio)) (b_Ratio___init__ : Binds K fd_Ratio___init__ ["self", "number", "under"] [])
    {ds_Ratio___init__ : List Value} (d_Ratio___init__ : Vals [.int 1] ds_Ratio___init__ ∧ Binds K fd_Ratio___init__ ["self", "number", "under"] ds_Ratio___init__)
    {fd_difference : FuncData} (G_difference : FnOk P w K mg base CX0 1 a.difference fd_difference ["one", "other"] (spDiff a.Ratio)) (b_difference : Binds K fd_difference ["one", "other"] [])
    {fd_as_ratio : FuncData} (G_as_ratio : FnOk P w K mg base CX0 4 a.as_ratio fd_as_ratio ["number"] (spAs K a.Ratio)) (b_as_ratio : Binds K fd_as_ratio ["number"] [])
    {fd_is_number : FuncData} (G_is_number : FnOk P w K mg base CX0 2 a.is_number fd_is_number ["value"] (spIsNum K a.Ratio)) (b_is_number : Binds K fd_is_number ["value"] []) :
    FnOk P w K mg base CX0 5 a.Ratio___sub__ fd ["self", "other"] (spBin a.Ratio fSub) := by
  refine F.ok sc_Ratio___sub__ (fun vs H Q E h => ?len) (fun cdv A outer s H vs Q E hr h => ⟨_,
      (pss_cons (ps_if (pt_not (pt_val (pe_call G_is_number (hr.mono (by omega)) (by rfl) T.g_is_number T.k_is_number b_is_number .nil pass0 (pa_cons (pv 1) pa_nil)))) (pss_one ps_never) pss_nil)
      (pss_cons (ps_set (i := 2) sc_Ratio___sub__.nd rfl (Or.inl rfl) (pe_call G_as_ratio (hr.mono (by omega)) (by rfl) T.g_as_ratio T.k_as_ratio b_as_ratio .nil pass0 (pa_cons (pv 1) pa_nil)))
      (pss_one (ps_ret (pe_make T.m_Ratio G_Ratio___init__ (hr.mono (by omega)) (by rfl) T.g_Ratio b_Ratio___init__ .nil pass0 (pa_cons (pe_call G_difference (hr.mono (by omega)) (by rfl) T.g_difference T.k_difference b_difference .nil pass0 (pa_cons (pv 0) (pa_cons (pv 2) pa_nil))) (pa_cons (pe_op op_mul (pe_fld (pv 0) rfl) (pe_fld (pv 2) rfl)) pa_nil))))))), ?body⟩)
  case len => obtain ⟨v, w, n, u, m, t, rfl, _⟩ := h; rfl
  case body =>
    obtain ⟨v, w, n, u, m, t, rfl, hv, hw, rn, rm, sn, su, sm, st, q⟩ := h
    obtain ⟨ty, b1, b2, b3, t1, k1, k2, k3, e⟩ := numTy T hw
    refine ⟨_, rfl, w, ty, b1, b2, b3, rfl, t1, k1, k2, k3, _, rfl, ?_⟩
    rw [e]
    refine iteF ?_
    refine ⟨_, rfl, w, m, t, rfl, hw, fun r H1 S1 hr1 => ?_⟩
    obtain ⟨x, dx, rfl, hx⟩ := hv.same S1
    obtain ⟨y, dy, rfl, hy⟩ := hr1
    refine ⟨_, rfl, _, rfl, _, _, n, u, m, t, rfl, ⟨x, dx, rfl, hx⟩, ⟨y, dy, rfl, hy⟩, sn, su, sm, st, ?_⟩
    refine ⟨_, rfl, _, _, _, _, _, rfl, hx, T.cl, T.nU, rfl, _, rfl, _, _, _, _, _, rfl, hy, T.cl, T.nU, rfl, _, _, rfl, rfl, .inl su, ?_⟩
    exact mk_rat (mulne rn.pos rm.pos) (smul200 su st) fun z H' S hz => q z H' (S1.trans S) hz
theorem ok_Ratio___mul__ {fd : FuncData} (F : Fun K "__mul__" "Ratio.__mul__" s_Ratio___mul__ a.Ratio___mul__ fd) (T : Txt K mg a)
    {fd_Ratio___init__ : FuncData} (G_Ratio___init__ : FnOk P w K mg base CX0 2 a.Ratio___init__ fd_Ratio___init__ ["self", "number", "under"] (spInit K a.Ratio)) (b_Ratio___init__ : Binds K fd_Ratio___init__ ["self", "number", "under"] [])
    {ds_Ratio___init__ : List Value} (d_Ratio___init__ : Vals [.int 1] ds_Ratio___init__ ∧ Binds K fd_Ratio___init__ ["self", "number", "under"] ds_Ratio___init__)
    {fd_as_ratio : FuncData} (G_as_ratio : FnOk P w K mg base CX0 4 a.as_ratio fd_as_ratio ["number"] (spAs K a.Ratio)) (b_as_ratio : Binds K fd_as_ratio ["number"] [])
    {fd_is_number : FuncData} (G_is_number : FnOk P w K mg base CX0 2 a.is_number fd_is_number ["value"] (spIsNum K a.Ratio)) (b_is_number : Binds K fd_is_number ["value"] []) :
    FnOk P w K mg base CX0 5 a.Ratio___mul__ fd ["self", "other"] (spBin a.Ratio fMul) := by
  refine F.ok sc_Ratio___mul__ (fun vs H Q E h => ?len) (fun cdv A outer s H vs Q E hr h => ⟨_,
      (pss_cons (ps_if (pt_not (pt_val (pe_call G_is_number (hr.mono (by omega)) (by rfl) T.g_is_number T.k_is_number b_is_number .nil pass0 (pa_cons (pv 1) pa_nil)))) (pss_one ps_never) pss_nil)
      (pss_cons (ps_set (i := 2) sc_Ratio___mul__.nd rfl (Or.inl rfl) (pe_call G_as_ratio (hr.mono (by omega)) (by rfl) T.g_as_ratio T.k_as_ratio b_as_ratio .nil pass0 (pa_cons (pv 1) pa_nil)))
      (pss_one (ps_ret (pe_make T.m_Ratio G_Ratio___init__ (hr.mono (by omega)) (by rfl) T.g_Ratio b_Ratio___init__ .nil pass0 (pa_cons (pe_op op_mul (pe_fld (pv 0) rfl) (pe_fld (pv 2) rfl)) (pa_cons (pe_op op_mul (pe_fld (pv 0) rfl) (pe_fld (pv 2) rfl)) pa_nil))))))), ?body⟩)
  case len => obtain ⟨v, w, n, u, m, t, rfl, _⟩ := h; rfl
  case body =>
    obtain ⟨v, w, n, u, m, t, rfl, hv, hw, rn, rm, sn, su, sm, st, q⟩ := h
    obtain ⟨ty, b1, b2, b3, t1, k1, k2, k3, e⟩ := numTy T hw
    refine ⟨_, rfl, w, ty, b1, b2, b3, rfl, t1, k1, k2, k3, _, rfl, ?_⟩
    rw [e]
    refine iteF ?_
    refine ⟨_, rfl, w, m, t, rfl, hw, fun r H1 S1 hr1 => ?_⟩
    obtain ⟨x, dx, rfl, hx⟩ := hv.same S1
    obtain ⟨y, dy, rfl, hy⟩ := hr1
    refine ⟨_, rfl, _, _, _, _, _, rfl, hx, T.cl, T.nN, rfl, _, rfl, _, _, _, _, _, rfl, hy, T.cl, T.nN, rfl, _, _, rfl, rfl, .inl sn, ?_⟩
    refine ⟨_, rfl, _, _, _, _, _, rfl, hx, T.cl, T.nU, rfl, _, rfl, _, _, _, _, _, rfl, hy, T.cl, T.nU, rfl, _, _, rfl, rfl, .inl su, ?_⟩
    exact mk_rat (mulne rn.pos rm.pos) (smul200 su st) fun z H' S hz => q z H' (S1.trans S) hz
theorem ok_Ratio___eq__ {fd : FuncData} (F : Fun K "__eq__" "Ratio.__eq__" s_Ratio___eq__ a.Ratio___eq__ fd) (T : Txt K mg a) :
    FnOk P w K mg base CX0 1 a.Ratio___eq__ fd ["self", "other"] (spEqq K a.Ratio) := by
  refine F.ok sc_Ratio___eq__ (fun vs H Q E h => ?len) (fun cdv A outer s H vs Q E hr h => ⟨_,
      (pss_one (ps_ret (pe_and (pe_callB call_isi (by rfl) T.n_isinstance (by decide +kernel) (pa_cons (pv 1) (pa_cons (pe_glob (v := .ref a.Ratio) (by rfl) T.g_Ratio rfl) pa_nil))) (pe_and (pe_cmpR op_eq (pe_fld (pv 0) rfl) (pe_fld (pv 1) rfl) (nomark _)) (pe_one (pe_cmpR op_eq (pe_fld (pv 0) rfl) (pe_fld (pv 1) rfl) (nomark _))))))), ?body⟩)
  case len => obtain ⟨v, w, n, u, rfl, _⟩ := h; rfl
  case body =>
    obtain ⟨v, w, n, u, rfl, ⟨x, dx, rfl, hx⟩, h⟩ := h
    rcases h with ⟨m, t, hw, q⟩ | ⟨⟨t, ty, k⟩, q⟩
    · refine ⟨_, rfl, w, _, _, _, true, rfl, .own _, ratTy T hw, T.ri.ks, true, rfl, iteT ?_⟩
      obtain ⟨y, dy, rfl, hy⟩ := hw
      refine ⟨_, rfl, _, _, _, _, _, rfl, hx, T.cl, T.nN, rfl, _, rfl, _, _, _, _, _, rfl, hy, T.cl, T.nN, rfl, rfl, _, rfl, ite2 (fun c => ?_) (fun c => ?_)⟩
      · have e1 : n = m := by
          have z := of_decide_eq_true c
          injection z with z
        refine ⟨_, rfl, _, _, _, _, _, rfl, hx, T.cl, T.nU, rfl, _, rfl, _, _, _, _, _, rfl, hy, T.cl, T.nU, rfl, rfl, ?_⟩
        have e2 : decide (V.int u = V.int t) = decide (n = m ∧ u = t) := by
          by_cases e : u = t
          · rw [decide_eq_true (show n = m ∧ u = t from ⟨e1, e⟩), decide_eq_true (by rw [e])]
          · rw [decide_eq_false (fun z : n = m ∧ u = t => e z.2), decide_eq_false (fun z => e (V.int.inj z))]
        rw [e2]
        exact q
      · have e1 : decide (n = m ∧ u = t) = false := decide_eq_false fun z => c (decide_eq_true (by rw [z.1]))
        rw [e1] at q
        exact q
    · refine ⟨_, rfl, w, _, _, _, false, rfl, .own _, ty, k, false, rfl, iteF q⟩
end
end My

namespace My
open PySem PySem.Spec PyProof.Rows L2 G
abbrev s__law_common : Stmt := topS 32
theorem sc__law_common : FnScope ["_law_one", "_law_other", "_law_left", "_law_right"] ["_law_one", "_law_other"] (defScope s__law_common) := ⟨rfl, rfl, rfl, by decide +kernel, rfl, by decide +kernel, by decide +kernel⟩

abbrev s__law_pair : Stmt := topS 33
theorem sc__law_pair : FnScope ["_law_above", "_law_under", "_law_by"] ["_law_above", "_law_under"] (defScope s__law_pair) := ⟨rfl, rfl, rfl, by decide +kernel, rfl, by decide +kernel, by decide +kernel⟩

abbrev s__law_pair_of : Stmt := topS 35
theorem sc__law_pair_of : FnScope ["_law_made"] ["_law_made"] (defScope s__law_pair_of) := ⟨rfl, rfl, rfl, by decide +kernel, rfl, by decide +kernel, by decide +kernel⟩

/-- a pair of ints -/
def PairAt (H : Hp) (v : V) (n u : Int) : Prop := ∃ p, v = .ref p ∧ H p = some (.tup [.int n, .int u])
theorem PairAt.same {H H' : Hp} {v : V} {n u : Int} (S : Same H H') (h : PairAt H v n u) : PairAt H' v n u := let ⟨p, e, h1⟩ := h; ⟨p, e, S _ _ h1⟩
theorem PairAt.go {p : Addr} {k : Nat} {H H' : Hp} {v : V} {n u : Int} (g : Go p k H H') (h : PairAt H v n u) (hp : PotAt H p 0 ∨ v ≠ .ref p) : PairAt H' v n u := by
  obtain ⟨q, rfl, e⟩ := h
  refine ⟨q, rfl, g.at e fun z => ?_⟩
  rcases hp with ⟨x, y, w, f, _⟩ | hp
  · rw [z, f] at e
    cases e
  · exact hp (by rw [z])
def spCommon : Sp := fun vs H Q _ => ∃ a b : Int, vs = [.int a, .int b] ∧ Q (.int ((Nat.gcd a.natAbs b.natAbs : Nat) : Int)) H
def spPair : Sp := fun vs H Q _ => ∃ a b : Int, vs = [.int a, .int b] ∧ b ≠ 0 ∧ b.natAbs < 2 ^ 200 ∧ ∀ p H', H p = none → Same H H' → PairAt H' (.ref p) (rNum a b) (rUnd a b) → Q (.ref p) H'
def spPo (C : Addr) : Sp := fun vs H Q _ => ∃ v n u, vs = [v] ∧ RatAt C H v n u ∧ ∀ p H', H p = none → Same H H' → PairAt H' (.ref p) n u → Q (.ref p) H'
section
variable {P : Program} {w : World} {K : PySem.W.Frag} {mg : Str → Option Value} {base : Heap} {a : Ad}
theorem ok__law_common {fd : FuncData} (F : Fun K "_law_common" "_law_common" s__law_common a._law_common fd) (T : Txt K mg a) :
    Fn P w K mg base CX0 1 a._law_common fd ["_law_one", "_law_other"] spCommon := by
  refine ok F sc__law_common (fun vs H Q E h => ?len) (fun cdv A outer s H vs Q E hq hr h => ⟨_,
      (pss_cons (ps_par (i := 2) (j := 3) (by rfl) sc__law_common.nd rfl rfl (by decide) rfl rfl (pa_cons (pe_callB call_abs (by rfl) T.n_abs (by decide +kernel) (pa_cons (pe_callTy call_int1 (by rfl) T.n_int (by decide +kernel) (pa_cons (pv 0) pa_nil)) pa_nil)) (pa_cons (pe_callB call_abs (by rfl) T.n_abs (by decide +kernel) (pa_cons (pe_callTy call_int1 (by rfl) T.n_int (by decide +kernel) (pa_cons (pv 1) pa_nil)) pa_nil)) pa_nil)) (by rfl))
      (pss_cons (ps_while PassesOwn.never (pt_cmpR op_gt (pv 3) pe_int (nomark _)) (pss_one (ps_par (i := 2) (j := 3) (by rfl) sc__law_common.nd rfl rfl (by decide) rfl rfl (pa_cons (pv 3) (pa_cons (pe_op op_modN (pe_callTy call_int1 (by rfl) T.n_int (by decide +kernel) (pa_cons (pv 2) pa_nil)) (pe_callTy call_int1 (by rfl) T.n_int (by decide +kernel) (pa_cons (pv 3) pa_nil))) pa_nil)) (by rfl))))
      (pss_one (ps_ret (pv 2))))), ?body⟩)
  case len => obtain ⟨x, y, rfl, _⟩ := h; rfl
  case body =>
    obtain ⟨x, y, rfl, q⟩ := h
    refine ⟨_, rfl, .inl ⟨_, rfl, _, rfl, _, rfl, .inl ⟨_, rfl, _, rfl, _, _, rfl, ?_⟩⟩⟩
    refine while_by (fun σ' H' => ∃ l r : Int, σ' = [some (.int x), some (.int y), some (.int l), some (.int r)] ∧ 0 ≤ l ∧ 0 ≤ r ∧ Nat.gcd l.natAbs r.natAbs = Nat.gcd x.natAbs y.natAbs ∧ H' = H)
      (fun σ' _ => match σ' with | [_, _, _, some (.int r)] => r.toNat | _ => 0) ⟨_, _, rfl, ?_, ?_, ?_, rfl⟩ ?_ ?_
    · show (0 : Int) ≤ if x < 0 then -x else x
      split <;> omega
    · show (0 : Int) ≤ if y < 0 then -y else y
      split <;> omega
    · show Nat.gcd (if x < 0 then -x else x).natAbs (if y < 0 then -y else y).natAbs = _
      have e1 : (if x < 0 then -x else x).natAbs = x.natAbs := by split <;> omega
      have e2 : (if y < 0 then -y else y).natAbs = y.natAbs := by split <;> omega
      rw [e1, e2]
    · rintro σ' H' ⟨l, r, rfl, hl, hr0, hg, rfl⟩
      refine ⟨_, rfl, _, _, rfl, rfl, _, rfl, ite2 (fun c => ?_) (fun c => ?_)⟩
      · have c0 : 0 < r := of_decide_eq_true c
        refine ⟨_, rfl, _, rfl, .inl ⟨_, rfl, _, rfl, .inl ⟨_, rfl, _, _, rfl, rfl, (by show r ≠ 0; omega), _, _, rfl, ⟨_, _, rfl, hr0, ?_, ?_, rfl⟩, ?_⟩⟩⟩
        · exact Int.fmod_nonneg_of_pos _ c0
        · rw [gcd_step hl c0]
          exact hg
        · show (l.fmod r).toNat < r.toNat
          have h1 := Int.fmod_lt_of_pos l c0
          have h2 := Int.fmod_nonneg_of_pos l c0
          omega
      · have c0 : r = 0 := by
          have : ¬ 0 < r := fun z => c (decide_eq_true z)
          omega
        subst c0
        have e : ((Nat.gcd x.natAbs y.natAbs : Nat) : Int) = l := by
          rw [← hg, show (0 : Int).natAbs = 0 from rfl, Nat.gcd_zero_right]
          omega
        rw [e] at q
        exact ⟨_, rfl, q⟩
    · rintro σ' H' Q1 Q2 imp ⟨v, e1, i, j, e2, e3, k, e4, z⟩
      exact ⟨v, e1, i, j, e2, e3, k, e4, imp _ _ z⟩
theorem ok__law_pair {fd : FuncData} (F : Fun K "_law_pair" "_law_pair" s__law_pair a._law_pair fd) (T : Txt K mg a)
    {fd__law_common : FuncData} (G__law_common : Fn P w K mg base CX0 1 a._law_common fd__law_common ["_law_one", "_law_other"] spCommon) (b__law_common : Binds K fd__law_common ["_law_one", "_law_other"] []) :
    Fn P w K mg base CX0 2 a._law_pair fd ["_law_above", "_law_under"] spPair := by
  refine ok F sc__law_pair (fun vs H Q E h => ?len) (fun cdv A outer s H vs Q E hq hr h => ⟨_,
      (pss_cons (ps_set (i := 2) sc__law_pair.nd rfl (Or.inl rfl) (pe_fn G__law_common hq (hr.mono (by omega)) (by rfl) T.g__law_common T.k__law_common b__law_common .nil pass0 (pa_cons (pv 0) (pa_cons (pv 1) pa_nil))))
      (pss_cons (ps_set (i := 2) sc__law_pair.nd rfl (Or.inl rfl) (pe_ifExp (pt_cmpR op_lt (pv 1) pe_int (nomark _)) (pe_un un_neg (pv 2)) (pv 2)))
      (pss_one (ps_ret (pe_tup (pa_cons (pe_op op_fdivZ (pv 0) (pv 2)) (pa_cons (pe_op op_fdivZ (pv 1) (pv 2)) pa_nil))))))), ?body⟩)
  case len => obtain ⟨x, y, rfl, _⟩ := h; rfl
  case body =>
    obtain ⟨x, y, rfl, h0, h1, q⟩ := h
    have hb : byOf x y ≠ 0 := byOf_ne h0
    have hl : (byOf x y).natAbs.log2 < 9000 := log_of (Nat.lt_of_le_of_lt (byOf_le h0) h1)
    have fin : ∀ g : Int, g = byOf x y → ∀ p, H p = none → Q (.ref p) (upd H p (.tup [.int (x.fdiv g), .int (y.fdiv g)])) := fun g e p hp => by
      refine q p _ hp (same_new hp) ⟨p, rfl, ?_⟩
      rw [e]
      exact upd_same
    refine ⟨_, rfl, _, rfl, x, y, rfl, _, rfl, _, _, rfl, rfl, _, rfl, ite2 (fun c => ?_) (fun c => ?_)⟩
    · have e : -((Nat.gcd x.natAbs y.natAbs : Nat) : Int) = byOf x y := by
        unfold byOf
        rw [if_pos (of_decide_eq_true c)]
      refine ⟨_, rfl, _, rfl, ?_⟩
      refine ⟨_, rfl, _, rfl, _, _, rfl, rfl, ⟨by rw [e]; exact hb, by rw [e]; exact hl⟩, _, rfl, _, rfl, _, _, rfl, rfl, ⟨by rw [e]; exact hb, by rw [e]; exact hl⟩, (by show 2 ≤ sizeLine; decide), ?_⟩
      exact fin _ e
    · have e : ((Nat.gcd x.natAbs y.natAbs : Nat) : Int) = byOf x y := by
        unfold byOf
        rw [if_neg fun z => c (decide_eq_true z)]
      refine ⟨_, rfl, ?_⟩
      refine ⟨_, rfl, _, rfl, _, _, rfl, rfl, ⟨by rw [e]; exact hb, by rw [e]; exact hl⟩, _, rfl, _, rfl, _, _, rfl, rfl, ⟨by rw [e]; exact hb, by rw [e]; exact hl⟩, (by show 2 ≤ sizeLine; decide), ?_⟩
      exact fin _ e
theorem ok__law_pair_of {fd : FuncData} (F : Fun K "_law_pair_of" "_law_pair_of" s__law_pair_of a._law_pair_of fd) (T : Txt K mg a) :
    Fn P w K mg base CX0 1 a._law_pair_of fd ["_law_made"] (spPo a.Ratio) := by
  refine ok F sc__law_pair_of (fun vs H Q E h => ?len) (fun cdv A outer s H vs Q E hq hr h => ⟨_,
      (pss_one (ps_ret (pe_tup (pa_cons (pe_fld (pv 0) rfl) (pa_cons (pe_fld (pv 0) rfl) pa_nil))))), ?body⟩)
  case len => obtain ⟨v, n, u, rfl, _⟩ := h; rfl
  case body =>
    obtain ⟨v, n, u, rfl, ⟨x, dx, rfl, hx⟩, q⟩ := h
    refine ⟨_, rfl, _, _, _, _, _, rfl, hx, T.cl, T.nN, rfl, _, rfl, _, _, _, _, _, rfl, hx, T.cl, T.nU, rfl, (by show 2 ≤ sizeLine; decide), fun p hp => ?_⟩
    exact q p _ hp (same_new hp) ⟨p, rfl, upd_same⟩
end
end My

namespace My
open PySem PySem.Spec PyProof.Rows L2 G
abbrev s__law_odd : Stmt := topS 31
theorem sc__law_odd : FnScope ["_law_pot_here", "_law_some"] ["_law_pot_here"] (defScope s__law_odd) := ⟨rfl, rfl, rfl, by decide +kernel, rfl, by decide +kernel, by decide +kernel⟩

theorem gd_dict1 {n k N : Nat} {x : Str} {d : PyData} (g : Gd n k d) (hx : gdB 8 0 (.str x) = true) (hN : 8 + n + 2 ≤ N) : Gd N (k + 1) (.dict [(.str x, d)]) := by
  have h := gdB_ok hx
  refine ⟨?_, ?_, ?_, ?_⟩
  · simp only [PyData.leavesShort, PyData.leavesShortKv, Bool.and_true, Bool.and_eq_true]; exact ⟨h.short, g.short⟩
  · simp only [PyData.showable, PyData.showableKv, Bool.and_true, Bool.and_eq_true]; exact ⟨trivial, g.show_⟩
  · simp only [PyData.depth, PyData.depthKv]; have := g.depth; omega
  · simp only [PyData.weight, PyData.weightKv]; have := g.weight; have := h.weight; simp only [PyData.weight] at this; omega
/-- what an odd value is: short data, an int that is not too long -/
def OddG (d : PyData) : Prop := Gd 60 4 d ∧ ∀ i, d = .int i → -(10 ^ 9) ≤ i ∧ i ≤ 10 ^ 9
def spOdd0 : Sp := fun vs H Q _ => ∃ (p : Addr) (n : Nat), vs = [.ref p] ∧ PotAt H p n ∧ n ≤ 100000 ∧ ∀ v H', (∀ N, Tr N H → Is N H' OddG v) → Go p (n + 1) H H' → Q v H'
local macro_rules | `(tactic| walk_at "gd") => `(tactic| exact gdB_ok (by decide +kernel))
local macro_rules | `(tactic| walk_at "ev") => `(tactic| repeat (first
  | exact eva_nil
  | apply eva_cons
  | exact evg_int (gdB_ok (by decide +kernel))
  | exact evg_str (gdB_ok (by decide +kernel))
  | exact evg_bl (gdB_ok (by decide +kernel))
  | exact evg_non (gdB_ok (by decide +kernel))
  | exact evg_neg (gdB_ok (by decide +kernel))
  | exact evg_pow ⟨by decide, by decide, by decide +kernel⟩ (gdB_ok (by decide +kernel))
  | exact evg_dnew (by assumption) (gdB_ok (by decide +kernel))
  | (apply evg_tup (G' := Gd 8 3); (case h => walk_at "ev"); (case t => assumption); (case hm => decide); (case g => exact fun ds l h => gd_tup h (Nat.le_of_eq l) (by decide)))
  | (apply evg_tup (G' := Gd 3 2); (case h => walk_at "ev"); (case t => assumption); (case hm => decide); (case g => exact fun ds l h => gd_tup h (Nat.le_of_eq l) (by decide)))
  | (apply evg_lst (G' := Gd 8 3); (case h => walk_at "ev"); (case t => assumption); (case hm => decide); (case g => exact fun ds l h => gd_lst h (Nat.le_of_eq l) (by decide)))
  | exact evg_dict1 (G' := Gd 8 3) (by assumption) (fun q H1 S => evg_int (gdB_ok (by decide +kernel))) (fun d g => gd_dict1 g (by decide +kernel) (by decide))))

local macro_rules | `(tactic| walk_at "evz") => `(tactic| repeat (first
  | exact eva_nil
  | apply eva_cons
  | exact evg_int ⟨gdB_ok (by decide +kernel), fun i e => by cases e; decide⟩
  | exact evg_str ⟨gdB_ok (by decide +kernel), fun i e => nomatch e⟩
  | exact evg_bl ⟨gdB_ok (by decide +kernel), fun i e => nomatch e⟩
  | exact evg_non ⟨gdB_ok (by decide +kernel), fun i e => nomatch e⟩
  | exact evg_neg ⟨gdB_ok (by decide +kernel), fun i e => by cases e; decide⟩
  | exact evg_pow ⟨by decide, by decide, by decide +kernel⟩ ⟨gdB_ok (by decide +kernel), fun i e => by cases e; decide⟩
  | exact evg_dnew (by assumption) ⟨gdB_ok (by decide +kernel), fun i e => nomatch e⟩
  | (apply evg_tup (G' := Gd 8 3); (case h => walk_at "ev"); (case t => assumption); (case hm => decide); (case g => exact fun ds l h => ⟨gd_tup h (Nat.le_of_eq l) (by decide), fun i e => nomatch e⟩))
  | (apply evg_tup (G' := Gd 3 2); (case h => walk_at "ev"); (case t => assumption); (case hm => decide); (case g => exact fun ds l h => ⟨gd_tup h (Nat.le_of_eq l) (by decide), fun i e => nomatch e⟩))
  | (apply evg_lst (G' := Gd 8 3); (case h => walk_at "ev"); (case t => assumption); (case hm => decide); (case g => exact fun ds l h => ⟨gd_lst h (Nat.le_of_eq l) (by decide), fun i e => nomatch e⟩))
  | exact evg_dict1 (G' := Gd 8 3) (by assumption) (fun q H1 S => evg_int (gdB_ok (by decide +kernel))) (fun d g => ⟨gd_dict1 g (by decide +kernel) (by decide), fun i e => nomatch e⟩)))
section
variable {P : Program} {w : World} {K : PySem.W.Frag} {mg : Str → Option Value} {base : Heap} {a : Ad}
theorem ok__law_odd {fd : FuncData} (F : Fun K "_law_odd" "_law_odd" s__law_odd a._law_odd fd) (T : Txt K mg a)
    {fd__law_of : FuncData} (G__law_of : Fn P w K mg base CX0 2 a._law_of fd__law_of ["_law_pot_here", "_law_some"] spOf) (b__law_of : Binds K fd__law_of ["_law_pot_here", "_law_some"] []) :
    Fn P w K mg base CX0 3 a._law_odd fd ["_law_pot_here"] spOdd0 := by
  refine ok F sc__law_odd (fun vs H Q E h => ?len) (fun cdv A outer s H vs Q E hq hr h => ⟨_,
      (pss_cons (ps_set (i := 1) sc__law_odd.nd rfl (Or.inl rfl) (pe_lstS (pa_cons pe_non (pa_cons pe_bl (pa_cons pe_bl (pa_cons pe_int (pa_cons pe_int (pa_cons (pe_un un_neg pe_int) (pa_cons pe_int (pa_cons pe_int (pa_cons pe_str (pa_cons pe_str (pa_cons pe_str (pa_cons pe_str (pa_cons (pe_tup pa_nil) (pa_cons (pe_lstS pa_nil) (pa_cons pe_dnewK (pa_cons (pe_tup (pa_cons pe_int pa_nil)) (pa_cons (pe_tup (pa_cons (pe_tup pa_nil) pa_nil)) (pa_cons (pe_lstS (pa_cons pe_int pa_nil)) (pa_cons (pe_tup (pa_cons pe_str (pa_cons pe_int pa_nil))) (pa_cons (pe_disp (pps_cons pe_str pe_int pps_nil) (by rfl) (by rfl) (fun z => by cases z) (by decide)) pa_nil))))))))))))))))))))))
      (pss_one (ps_ret (pe_fn G__law_of hq (hr.mono (by omega)) (by rfl) T.g__law_of T.k__law_of b__law_of .nil pass0 (pa_cons (pv 0) (pa_cons (pe_op op_cat (pv 1) (pe_lstS (pa_cons (pe_tup (pa_cons (pe_tup (pa_cons pe_str pa_nil)) pa_nil)) (pa_cons (pe_tup (pa_cons pe_str (pa_cons pe_str pa_nil))) (pa_cons (pe_tup (pa_cons pe_int (pa_cons pe_int pa_nil))) (pa_cons (pe_tup (pa_cons (pe_tup (pa_cons pe_int (pa_cons pe_int pa_nil))) pa_nil)) (pa_cons (pe_tup (pa_cons pe_non pa_nil)) (pa_cons (pe_op op_powW pe_int pe_int) (pa_cons pe_str (pa_cons (pe_tup (pa_cons pe_bl pa_nil)) (pa_cons (pe_tup (pa_cons pe_int (pa_cons (pe_un un_neg pe_int) (pa_cons pe_int pa_nil)))) pa_nil))))))))))) pa_nil)))))), ?body⟩)
  case len => obtain ⟨p, n, rfl, _⟩ := h; rfl
  case body =>
    obtain ⟨p, n, rfl, pot, hn, q⟩ := h
    have t : Tr (fun b => H b ≠ none) H := fun _ h => h
    refine s_set (eva_list (G := OddG) (m := 20) t ?ev1 (by decide) fun l xs H1 S1 nl hl sl ll hx => ?_)
    case ev1 => walk_at "evz"
    have t1 : Tr (fun b => H b ≠ none) H1 := t.same S1
    refine ⟨_, rfl, _, rfl, ?_⟩
    refine eva_list (G := OddG) (m := 9) t1 ?ev2 (by decide) fun l2 ys H2 S2 nl2 hl2 sl2 ll2 hy => ?_
    case ev2 => walk_at "evz"
    refine ⟨_, _, _, _, rfl, rfl, S2 _ _ hl, hl2, by rw [ll, ll2]; decide, fun l3 n3 => ?_⟩
    have pot3 : PotAt (upd H2 l3 (.lst (xs ++ ys))) p n := ((pot.same S1).same S2).same (same_new n3)
    have n3p : l3 ≠ p := fun e => by
      rw [e] at n3
      exact ((pot.same S1).same S2).has n3
    refine ⟨p, l3, n, xs ++ ys, rfl, n3p, pot3, hn, upd_same, (by intro e; have z := congrArg List.length e; rw [List.length_append, ll, ll2] at z; exact absurd z (by decide)), by rw [List.length_append, ll, ll2]; decide, fun x H4 hm g => ?_⟩
    refine q x H4 (fun N tN => ?_) (Go.of ((S1.trans S2).trans (same_new n3)) g)
    have hx3 : Is (fun b => H b ≠ none) (upd H2 l3 (.lst (xs ++ ys))) OddG x := by
      rcases List.mem_append.mp hm with z | z
      · exact ((hx x z).same S2).same (same_new n3)
      · exact (hy x z).same (same_new n3)
    exact (g.is pot.has hx3).less tN
end
end My

namespace My
open PySem PySem.Spec PyProof.Rows L2 G SX NumText
abbrev s_written : Stmt := topS 15
theorem sc_written : FnScope ["integer", "parts", "rest", "part"] ["integer"] (defScope s_written) := ⟨rfl, rfl, rfl, by decide +kernel, rfl, by decide +kernel, by decide +kernel⟩

abbrev s__has_figures_alone : Stmt := topS 16
theorem sc__has_figures_alone : FnScope ["word"] ["word"] (defScope s__has_figures_alone) := ⟨rfl, rfl, rfl, by decide +kernel, rfl, by decide +kernel, by decide +kernel⟩

abbrev s__worth : Stmt := topS 17
theorem sc__worth : FnScope ["word", "worth", "padded", "start"] ["word"] (defScope s__worth) := ⟨rfl, rfl, rfl, by decide +kernel, rfl, by decide +kernel, by decide +kernel⟩

abbrev s_Ratio_text : Stmt := inClass (topS 19) 1
theorem sc_Ratio_text : FnScope ["self"] ["self"] (defScope s_Ratio_text) := ⟨rfl, rfl, rfl, by decide +kernel, rfl, by decide +kernel, by decide +kernel⟩

def spWritten : Sp := fun vs H Q _ => ∃ i : Int, vs = [.int i] ∧ i.natAbs < 10 ^ 64 ∧ ∀ H', Same H H' → Q (.str (S (intL i))) H'
def spFig : Sp := fun vs H Q _ => ∃ l, vs = [.str (S l)] ∧ Q (.bl (figs l)) H
def spWorth : Sp := fun vs H Q _ => ∃ l, vs = [.str (S l)] ∧ figs l = true ∧ l.length ≤ 64 ∧ Q (.int ((digitsVal l : Nat) : Int)) H
def spText (C : Addr) : Sp := fun vs H Q _ => ∃ v n u, vs = [v] ∧ RatAt C H v n u ∧ n.natAbs < 10 ^ 64 ∧ 0 < u ∧ u.natAbs < 10 ^ 64 ∧ ∀ H', Same H H' → Q (.str (S (ratL n u))) H'
theorem log64 {i : Int} (h : i.natAbs < 10 ^ 64) : i.natAbs.log2 < 1920 := Nat.lt_of_lt_of_le (PySem.Flt.log2_lt_of (k := 213) (by decide) (Nat.lt_of_lt_of_le h (by decide +kernel))) (by decide)
theorem intL_short {i : Int} (h : i.natAbs < 10 ^ 64) : (intL i).length ≤ 65 := intL_le (by decide) h
section
variable {P : Program} {w : World} {K : PySem.W.Frag} {mg : Str → Option Value} {base : Heap} {a : Ad}
theorem ok_written {fd : FuncData} (F : Fun K "written" "written" s_written a.written fd) (T : Txt K mg a) :
    FnOk P w K mg base CX0 1 a.written fd ["integer"] spWritten := by
  refine F.ok sc_written (fun vs H Q E h => ?len) (fun cdv A outer s H vs Q E hr h => ⟨_,
      (pss_cons (ps_set (i := 1) sc_written.nd rfl (Or.inl rfl) (pe_lstS pa_nil))
      (pss_cons (ps_set (i := 2) sc_written.nd rfl (Or.inl rfl) (pe_callB call_abs (by rfl) T.n_abs (by decide +kernel) (pa_cons (pv 0) pa_nil)))
      (pss_cons (ps_while PassesOwn.never (pt_cmpR op_ge (pv 2) (pe_glob (v := .int (10 ^ 64)) (by rfl) T.g_PART.choose_spec ⟨_, rfl⟩) (nomark _)) (pss_cons ps_never
      (pss_one ps_never)))
      (pss_cons (ps_expr (pe_bm PySem.F.plainAttrs_list PySem.F.slot_list_append PySem.F.type_list_append mt_append (pv 1) (pa_cons (pe_callTy call_str_int (by rfl) T.n_str (by decide +kernel) (pa_cons (pv 2) pa_nil)) pa_nil)))
      (pss_cons (ps_if (pt_cmpR op_lt (pv 0) pe_int (nomark _)) (pss_one (ps_expr (pe_bm PySem.F.plainAttrs_list PySem.F.slot_list_append PySem.F.type_list_append mt_append (pv 1) (pa_cons pe_str pa_nil)))) pss_nil)
      (pss_one (ps_ret (pe_join pe_str (pe_revL (pv 1)))))))))), ?body⟩)
  case len => obtain ⟨i, rfl, _⟩ := h; rfl
  case body =>
    obtain ⟨i, rfl, i1, q⟩ := h
    refine ⟨(by show 0 ≤ sizeLine; decide), fun l hl sl => ?_⟩
    refine ⟨_, rfl, _, rfl, ?_⟩
    have ea : (if i < 0 then -i else i) = ((i.natAbs : Nat) : Int) := by split <;> omega
    rw [ea]
    refine while_by (fun σ' H' => σ' = [some (.int i), some (.ref l), some (.int ((i.natAbs : Nat) : Int)), none] ∧ H' = upd H l (.lst [])) (fun _ _ => 0) ⟨rfl, rfl⟩ ?_ ?_
    · rintro σ' H' ⟨rfl, rfl⟩
      refine ⟨_, rfl, _, _, rfl, rfl, _, rfl, ite2 (fun c => ?_) (fun c => ?_)⟩
      · exact absurd (of_decide_eq_true c) (by show ¬ (10 ^ 64 : Int) ≤ ((i.natAbs : Nat) : Int); omega)
      have lg : (((i.natAbs : Nat) : Int)).natAbs.log2 < 1920 := log64 i1
      refine ⟨_, rfl, .inl ⟨rfl, _, SqL.of upd_same⟩, _, rfl, ((i.natAbs : Nat) : Int), rfl, lg, _, _, _, rfl, rfl, upd_same, (by show 0 < sizeLine; decide), ?_⟩
      have num : Str.ofString (toString ((i.natAbs : Nat) : Int)) = S (TL.numL i.natAbs) := num_S _
      have nl : (TL.numL i.natAbs).length ≤ 64 := TL.numL_len (by decide) i1
      rw [upd_upd]
      refine ⟨_, rfl, _, _, rfl, rfl, _, rfl, ite2 (fun c2 => ?_) (fun c2 => ?_)⟩
      · have neg : i < 0 := of_decide_eq_true c2
        refine ⟨_, rfl, .inl ⟨rfl, _, SqL.of upd_same⟩, _, _, _, rfl, rfl, upd_same, (by show 1 < sizeLine; decide), ?_⟩
        rw [upd_upd]
        refine ⟨⟨_, rfl⟩, _, rfl, l, _, rfl, SqL.of upd_same, fun p hp => ?_⟩
        refine ⟨S [], p, [S [45], S (TL.numL i.natAbs)], rfl, rfl, .inl (SqL.of (upd_same.trans ?_)), ?_, ?_⟩
        · rw [num]
          rfl
        · simp only [List.map_cons, List.map_nil, List.sum_cons, List.sum_nil, List.length_cons, List.length_nil]
          rw [S_len, S_len, S_len, List.length_singleton, List.length_nil]
          omega
        · have e : Txt.join (S []) [S [45], S (TL.numL i.natAbs)] = S (intL i) := by
            have := join_S [] [[45], TL.numL i.natAbs]
            refine Eq.trans this ?_
            unfold intL
            rw [if_pos neg]
            rfl
          rw [e]
          exact q _ ((same_new hl).trans (same_new hp))
      · have pos : ¬ i < 0 := fun z => c2 (decide_eq_true z)
        refine ⟨⟨_, rfl⟩, _, rfl, l, _, rfl, SqL.of upd_same, fun p hp => ?_⟩
        refine ⟨S [], p, [S (TL.numL i.natAbs)], rfl, rfl, .inl (SqL.of (upd_same.trans ?_)), ?_, ?_⟩
        · rw [num]
          rfl
        · simp only [List.map_cons, List.map_nil, List.sum_cons, List.sum_nil, List.length_cons, List.length_nil]
          rw [S_len, S_len, List.length_nil]
          omega
        · have e : Txt.join (S []) [S (TL.numL i.natAbs)] = S (intL i) := by
            have := join_S [] [TL.numL i.natAbs]
            refine Eq.trans this ?_
            unfold intL
            rw [if_neg pos]
            rfl
          rw [e]
          exact q _ ((same_new hl).trans (same_new hp))
    · rintro σ' H' Q1 Q2 imp ⟨v, e1, i, j, e2, e3, k, e4, z⟩
      exact ⟨v, e1, i, j, e2, e3, k, e4, imp _ _ z⟩
theorem ok__has_figures_alone {fd : FuncData} (F : Fun K "_has_figures_alone" "_has_figures_alone" s__has_figures_alone a._has_figures_alone fd) (T : Txt K mg a) :
    FnOk P w K mg base CX0 1 a._has_figures_alone fd ["word"] spFig := by
  refine F.ok sc__has_figures_alone (fun vs H Q E h => ?len) (fun cdv A outer s H vs Q E hr h => ⟨_,
      (pss_one (ps_ret (pe_and (pe_m0 PySem.F.slot_str_isascii PySem.F.type_str_isascii mt_isascii (pv 0)) (pe_one (pe_m0 PySem.F.slot_str_isdigit PySem.F.type_str_isdigit mt_isdigit (pv 0)))))), ?body⟩)
  case len => obtain ⟨l, rfl, _⟩ := h; rfl
  case body =>
    obtain ⟨l, rfl, q⟩ := h
    refine ⟨_, rfl, ⟨_, rfl⟩, _, rfl, rfl, trivial, _, rfl, ?_⟩
    rw [ascii_S]
    cases c : l.all (· < 128)
    · refine iteF ?_
      have e : figs l = false := by
        cases e : figs l
        · rfl
        · rw [figs_ascii e] at c
          cases c
      rw [e] at q
      exact q
    · refine iteT ⟨_, rfl, ⟨_, rfl⟩, _, rfl, rfl, trivial, ?_⟩
      rw [isdigit_S c]
      exact q
theorem ok__worth {fd : FuncData} (F : Fun K "_worth" "_worth" s__worth a._worth fd) (T : Txt K mg a) :
    FnOk P w K mg base CX0 1 a._worth fd ["word"] spWorth := by
  refine F.ok sc__worth (fun vs H Q E h => ?len) (fun cdv A outer s H vs Q E hr h => ⟨_,
      (pss_cons (ps_set (i := 1) sc__worth.nd rfl (Or.inl rfl) pe_int)
      (pss_cons (ps_set (i := 2) sc__worth.nd rfl (Or.inl rfl) (pe_m1 PySem.F.slot_str_zfill PySem.F.type_str_zfill mt_zfill (pv 0) (pe_op op_mul (pe_un un_neg (pe_op op_fdivZ (pe_un un_neg (pe_callB call_len_str (by rfl) T.n_len (by decide +kernel) (pa_cons (pv 0) pa_nil))) (pe_glob (v := .int 64) (by rfl) T.g_FIG.choose_spec ⟨_, rfl⟩))) (pe_glob (v := .int 64) (by rfl) T.g_FIG.choose_spec ⟨_, rfl⟩))))
      (pss_cons (ps_for PassesOwn.never rfl (pi_range3 (by rfl) T.n_range (pa_cons pe_int (pa_cons (pe_callB call_len_str (by rfl) T.n_len (by decide +kernel) (pa_cons (pv 2) pa_nil)) (pa_cons (pe_glob (v := .int 64) (by rfl) T.g_FIG.choose_spec ⟨_, rfl⟩) pa_nil)))) (pg_name (i := 3) sc__worth.nd rfl (Or.inl rfl)) (pss_one (ps_set (i := 1) sc__worth.nd rfl (Or.inl rfl) (pe_op op_add (pe_op op_mul (pv 1) (pe_glob (v := .int (10 ^ 64)) (by rfl) T.g_PART.choose_spec ⟨_, rfl⟩)) (pe_callTy call_int_str (by rfl) T.n_int (by decide +kernel) (pa_cons (pe_slice C8.sl_txt (pv 2) (po_some (pv 3)) (po_some (pe_op op_add (pv 3) (pe_glob (v := .int 64) (by rfl) T.g_FIG.choose_spec ⟨_, rfl⟩)))) pa_nil))))))
      (pss_one (ps_ret (pv 1)))))), ?body⟩)
  case len => obtain ⟨l, rfl, _⟩ := h; rfl
  case body =>
    obtain ⟨l, rfl, hf, hl, q⟩ := h
    have ne : 1 ≤ l.length := by
      have := (figs_of hf).1
      cases l
      · exact absurd rfl this
      · simp
    have e1 : (-(((l.length : Nat) : Int))).fdiv 64 = -1 := by
      rw [Int.fdiv_eq_ediv_of_nonneg _ (by decide)]
      omega
    have ew : -((-(((S l).length : Nat) : Int)).fdiv 64) * 64 = 64 := by rw [S_len, e1]; rfl
    have ez : Txt.zfill (S l) 64 = S (filled 64 l) := zfill_S (k := 64) hf hl
    have lf : (filled 64 l).length = 64 := filled_len hl
    refine ⟨_, rfl, ⟨_, rfl⟩, _, rfl, S l, rfl, by rw [S_len, sizeLine_eq]; omega, _, rfl, _, _, rfl, rfl, ⟨by decide, by decide +kernel⟩, _, rfl, _, _, rfl, rfl, .inr ⟨by decide, by decide⟩, S l, 64, rfl, congrArg (fun i : Int => [V.int i]) ew, rfl, ?_⟩
    rw [ez]
    refine ⟨_, rfl, S (filled 64 l), rfl, by rw [S_len, sizeLine_eq]; omega, 0, 64, 64, 1, by rw [S_len, lf]; rfl, ⟨by decide, by decide, by decide +kernel, by decide +kernel⟩, ?_⟩
    refine for_rangeC (fun i σ H' => H' = H ∧ ∃ s3, σ = [some (.str (S l)), some (.int (if i = 0 then 0 else ((digitsVal l : Nat) : Int))), some (.str (S (filled 64 l))), s3]) ⟨rfl, none, rfl⟩ ?_ ?_
    · rintro i σ H' hi ⟨rfl, s3, rfl⟩
      obtain rfl : i = 0 := by omega
      have es : Txt.slice (S (filled 64 l)) (some (0 + ((0 : Nat) : Int) * 64)) (some (0 + ((0 : Nat) : Int) * 64 + 64)) = S (filled 64 l) := by
        refine (slice_ab (filled 64 l) 0 64).trans ?_
        rw [lf]
        show S ((filled 64 l).take 64) = _
        rw [List.take_of_length_le (by omega)]
      refine ⟨_, rfl, _, _, rfl, rfl, .inl ⟨by rw [if_pos rfl]; decide, by rw [if_pos rfl]; decide⟩, ?_⟩
      refine ⟨_, rfl, _, rfl, _, rfl, _, rfl, _, _, rfl, rfl, _, rfl, S (filled 64 l), rfl, by rw [S_len, sizeLine_eq]; omega, S (filled 64 l), ((digitsVal l : Nat) : Int), by rw [es], int_filled hf hl (by decide), by rw [S_len]; omega, ?_⟩
      have ev : (if (0 : Nat) = 0 then (0 : Int) else ((digitsVal l : Nat) : Int)) * 10 ^ 64 + ((digitsVal l : Nat) : Int) = if 0 + 1 = 0 then 0 else ((digitsVal l : Nat) : Int) := by
        rw [if_pos rfl, if_neg (by decide)]
        omega
      exact ⟨_, _, rfl, rfl, rfl, some (.int (0 + ((0 : Nat) : Int) * 64)), congrArg (fun v : Int => [some (V.str (S l)), some (V.int v), some (V.str (S (filled 64 l))), some (V.int (0 + ((0 : Nat) : Int) * 64))]) ev⟩
    · rintro σ H' ⟨rfl, s3, rfl⟩
      exact ⟨_, rfl, q⟩
theorem ok_Ratio_text {fd : FuncData} (F : Fun K "text" "Ratio.text" s_Ratio_text a.Ratio_text fd) (T : Txt K mg a)
    {fd_written : FuncData} (G_written : FnOk P w K mg base CX0 1 a.written fd_written ["integer"] spWritten) (b_written : Binds K fd_written ["integer"] []) :
    FnOk P w K mg base CX0 2 a.Ratio_text fd ["self"] (spText a.Ratio) := by
  refine F.ok sc_Ratio_text (fun vs H Q E h => ?len) (fun cdv A outer s H vs Q E hr h => ⟨_,
      (pss_cons (ps_if (pt_cmpR op_eq (pe_fld (pv 0) rfl) pe_int (nomark _)) (pss_one (ps_ret (pe_call G_written (hr.mono (by omega)) (by rfl) T.g_written T.k_written b_written .nil pass0 (pa_cons (pe_fld (pv 0) rfl) pa_nil)))) pss_nil)
      (pss_one (ps_ret (pe_joined (.cons (pe_fmt (pe_call G_written (hr.mono (by omega)) (by rfl) T.g_written T.k_written b_written .nil pass0 (pa_cons (pe_fld (pv 0) rfl) pa_nil))) (.cons pe_str (.cons (pe_fmt (pe_call G_written (hr.mono (by omega)) (by rfl) T.g_written T.k_written b_written .nil pass0 (pa_cons (pe_fld (pv 0) rfl) pa_nil))) .nil))))))), ?body⟩)
  case len => obtain ⟨v, n, u, rfl, _⟩ := h; rfl
  case body =>
    obtain ⟨v, n, u, rfl, ⟨x, dx, rfl, hx⟩, n1, u0, u1, q⟩ := h
    refine ⟨_, rfl, _, _, _, _, _, rfl, hx, T.cl, T.nU, rfl, rfl, _, rfl, ite2 (fun c => ?_) (fun c => ?_)⟩
    · have e : u = 1 := by
        have z := of_decide_eq_true c
        injection z
      rw [e, ratL_one] at q
      exact ⟨_, rfl, _, _, _, _, _, rfl, hx, T.cl, T.nN, rfl, n, rfl, n1, q⟩
    · have e : u ≠ 1 := fun z => c (decide_eq_true (by rw [z]))
      rw [ratL_two e] at q
      have l1 := intL_short n1
      have l2 := intL_short u1
      refine ⟨_, rfl, _, _, _, _, _, rfl, hx, T.cl, T.nN, rfl, n, rfl, n1, fun H1 S1 => .inl ⟨_, rfl, by rw [S_len, sizeLine_eq]; omega, _, rfl, ?_, _, rfl, ?_, _, rfl, _, _, _, _, _, rfl, S1 _ _ hx, T.cl, T.nU, rfl, u, rfl, u1, fun H2 S2 => .inl ⟨_, rfl, by rw [S_len, sizeLine_eq]; omega, _, rfl, ?_, ?_⟩⟩⟩
      · rw [emp_cat, S_len, sizeLine_eq]
        omega
      · rw [emp_cat, stroke_S, S_cat, S_len, sizeLine_eq, List.length_append, List.length_singleton]
        omega
      · rw [emp_cat, stroke_S, S_cat, S_cat, S_len, sizeLine_eq, List.length_append, List.length_append, List.length_singleton]
        omega
      · rw [emp_cat, stroke_S, S_cat, S_cat, List.append_assoc]
        exact q _ (S1.trans S2)
end
end My

namespace My
open PySem PySem.Spec PyProof.Rows L2 G SX NumText
abbrev s_read_ratio : Stmt := topS 18
theorem sc_read_ratio : FnScope ["value", "above", "stroke", "below", "words", "number", "under", "ratio", "word"] ["value"] (defScope s_read_ratio) := ⟨rfl, rfl, rfl, by decide +kernel, rfl, by decide +kernel, by decide +kernel⟩

/-- the text of a fraction, by its signs -/
def spRead (C : Addr) : Sp := fun vs H Q _ => ∃ l n u, vs = [.str (S l)] ∧ l.length ≤ 60 ∧ IsRat l n u ∧ ∀ w H', Same H H' → RatAt C H' w n u → Q w H'
/-- what the raising asks -/
theorem raise_told {H1 : Hp} {C : Addr} {K : PySem.W.Frag} {w : V} {Q : XK} (T : EC K C) (q : ∀ d H', Same H1 H' → H' d = some (.xd [("value", w)]) → Q (.ref C) (some d) H') : ([w] : List V).length ≤ 1000 ∧ ∀ a, H1 a = none → spErrInit K (.ref a :: ([w] ++ [])) (upd H1 a (exo a C none))
    (fun v H2 => v = .non ∧ ∃ (d : Addr) (fs : List (Str × V)), H2 a = some (exo a C (some d)) ∧ H2 d = some (exd d fs) ∧ H1 d = none ∧ Q (.ref C) (some d) (upd (del H2 a) d (.xd fs))) (fun _ _ _ => False) := by
  refine ⟨(by show 1 ≤ 1000; decide), fun e he => ⟨e, C, w, rfl, T.ox, T.nv, upd_same, fun d hd hne => ⟨rfl, d, [("value", w)], upd_same, ?_, ?_, ?_⟩⟩⟩
  · rw [upd_ne hne]; exact upd_same
  · rw [upd_ne hne] at hd
    exact hd
  · refine q d _ (fun b o z => ?_) upd_same
    have nd : b ≠ d := by
      rw [upd_ne hne] at hd
      exact ne_of_none z hd
    have ne : b ≠ e := ne_of_none z he
    rw [upd_ne nd, del_ne ne, upd_ne ne, upd_ne nd, upd_ne ne]
    exact z
theorem passF {X : Cx} : Passes (L2.CX X.prog X.w) X E0 := fun _ _ _ _ _ _ _ h => by
  obtain ⟨_, _, _, _, _, _, _, _, _, _, _, _, z⟩ := h
  exact z.elim
theorem mk_at {K : PySem.W.Frag} {C x dx : Addr} {H : Hp} {n u : Int} {P : VK} (h0 : u ≠ 0) (h1 : u.natAbs < 2 ^ 200) (hx : H x = none) (hdx : H dx = none) (ne : dx ≠ x) (q : ∀ H', Same H H' → RatAt C H' (.ref x) (rNum n u) (rUnd n u) → P .non H') :
    spInit K C [.ref x, .int n, .int u] (upd (upd H dx (.own x)) x (.ins C dx [])) P E0 := by
  refine ⟨x, dx, n, u, rfl, h0, h1, upd_same, q _ (fun b o e => ?_) ⟨x, dx, rfl, upd_same⟩⟩
  rw [upd_ne (ne_of_none e hx), upd_ne (ne_of_none e hx), upd_ne (ne_of_none e hdx)]
  exact e
theorem str_S {a b : List Nat} (h : V.str (S a) = V.str (S b)) : a = b := S_inj (V.str.inj h)
section
variable {P : Program} {w : World} {K : PySem.W.Frag} {mg : Str → Option Value} {base : Heap} {a : Ad}
theorem ok_read_ratio {fd : FuncData} (F : Fun K "read_ratio" "read_ratio" s_read_ratio a.read_ratio fd) (T : Txt K mg a)
    {fd_Ratio_text : FuncData} (G_Ratio_text : FnOk P w K mg base CX0 2 a.Ratio_text fd_Ratio_text ["self"] (spText a.Ratio)) (b_Ratio_text : Binds K fd_Ratio_text ["self"] [])
    {fd_Ratio___init__ : FuncData} (G_Ratio___init__ : FnOk P w K mg base CX0 2 a.Ratio___init__ fd_Ratio___init__ ["self", "number", "under"] (spInit K a.Ratio)) (b_Ratio___init__ : Binds K fd_Ratio___init__ ["self", "number", "under"] [])
    {ds_Ratio___init__ : List Value} (d_Ratio___init__ : Vals [.int 1] ds_Ratio___init__ ∧ Binds K fd_Ratio___init__ ["self", "number", "under"] ds_Ratio___init__)
    {fd__worth : FuncData} (G__worth : FnOk P w K mg base CX0 1 a._worth fd__worth ["word"] spWorth) (b__worth : Binds K fd__worth ["word"] [])
    {fd__has_figures_alone : FuncData} (G__has_figures_alone : FnOk P w K mg base CX0 1 a._has_figures_alone fd__has_figures_alone ["word"] spFig) (b__has_figures_alone : Binds K fd__has_figures_alone ["word"] []) :
    FnOk P w K mg base CX0 4 a.read_ratio fd ["value"] (spRead a.Ratio) := by
  refine F.ok sc_read_ratio (fun vs H Q E h => ?len) (fun cdv A outer s H vs Q E hr h => ⟨_,
      (pss_cons (ps_if (pt_not (pt_val (pe_callB call_isi (by rfl) T.n_isinstance (by decide +kernel) (pa_cons (pv 0) (pa_cons (pe_bltn (v := .ty "str") (u := .type "str") (by rfl) T.n_str (by decide +kernel) rfl) pa_nil))))) (pss_one (ps_ret pe_non)) pss_nil)
      (pss_cons (ps_asg (pe_m1 PySem.F.slot_str_partition PySem.F.type_str_partition mt_partition (pv 0) pe_str) (pg_tup rfl (pgs_cons (pg_name (i := 1) sc_read_ratio.nd rfl (Or.inl rfl)) (pgs_cons (pg_name (i := 2) sc_read_ratio.nd rfl (Or.inl rfl)) (pgs_cons (pg_name (i := 3) sc_read_ratio.nd rfl (Or.inl rfl)) pgs_nil)))))
      (Evl.pss_cut (ps_set (i := 4) sc_read_ratio.nd rfl (Or.inl rfl) (pe_lstS (pa_cons (pe_m1 PySem.F.slot_str_removeprefix PySem.F.type_str_removeprefix mt_removeprefix (pv 1) pe_str) (pa_cons (pe_ifExp (pt_truth (pv 2) (by intro _; rfl)) (pv 3) pe_str) pa_nil))))
      (pss_cons (ps_if (pt_not (pt_val (pe_callB (cr_all rfl) (by rfl) T.n_all (by decide +kernel) (pa_cons (pe_lc (own := [("word", 8)]) (g := gName 8) (tt := tYes) rfl sc_read_ratio.nd (pi_list (pv 4)) (blkOk_by (own := [("word", 8)]) (N := ["value", "above", "stroke", "below", "words", "number", "under", "ratio", "word"]) (sc := defScope s_read_ratio) (by decide +kernel)) (fun _ _ _ _ _ => (pg_name (i := 8) sc_read_ratio.nd rfl (Or.inl rfl))) (fun _ _ _ _ _ => pts_nil) (fun _ _ _ _ _ => (pe_call G__has_figures_alone (hr.mono (by omega)) (by rfl) T.g__has_figures_alone T.k__has_figures_alone b__has_figures_alone .nil pass0 (pa_cons (pv 8) pa_nil)))) pa_nil)))) (pss_one (ps_ret pe_non)) pss_nil)
      (pss_cons (ps_asg (pe_lc (own := [("word", 8)]) (g := gName 8) (tt := tYes) rfl sc_read_ratio.nd (pi_list (pv 4)) (blkOk_by (own := [("word", 8)]) (N := ["value", "above", "stroke", "below", "words", "number", "under", "ratio", "word"]) (sc := defScope s_read_ratio) (by decide +kernel)) (fun _ _ _ _ _ => (pg_name (i := 8) sc_read_ratio.nd rfl (Or.inl rfl))) (fun _ _ _ _ _ => pts_nil) (fun _ _ _ _ _ => (pe_call G__worth (hr.mono (by omega)) (by rfl) T.g__worth T.k__worth b__worth .nil pass0 (pa_cons (pv 8) pa_nil)))) (pg_unl rfl (pgs_cons (pg_name (i := 5) sc_read_ratio.nd rfl (Or.inl rfl)) (pgs_cons (pg_name (i := 6) sc_read_ratio.nd rfl (Or.inl rfl)) pgs_nil))))
      (pss_cons (ps_if (pt_cmpR op_eq (pv 6) pe_int (nomark _)) (pss_one (ps_ret pe_non)) pss_nil)
      (Evl.pss_cut (ps_set (i := 7) sc_read_ratio.nd rfl (Or.inl rfl) (pe_make T.m_Ratio G_Ratio___init__ (hr.mono (by omega)) (by rfl) T.g_Ratio b_Ratio___init__ .nil pass0 (pa_cons (pe_ifExp (pt_val (pe_m1 PySem.F.slot_str_startswith PySem.F.type_str_startswith mt_startswith (pv 1) pe_str)) (pe_un un_neg (pv 5)) (pv 5)) (pa_cons (pv 6) pa_nil))))
      (pss_one (ps_ret (pe_ifExp (pt_cmpR op_eq (pe_prop (pv 7) T.cl T.tR.choose_spec G_Ratio_text (hr.mono (by omega)) b_Ratio_text .nil pass0 (by rfl)) (pv 0) (nomark _)) (pv 7) pe_non)))))))))), ?body⟩)
  case len => obtain ⟨l, n, u, rfl, _⟩ := h; rfl
  case body =>
    obtain ⟨l, n0, u0, rfl, hl, i0, q0⟩ := h
    have hS : ∀ n u, IsRat l n u → ∀ w H', Same H H' → RatAt a.Ratio H' w n u → Q w H' := fun n u i w H' S r => by
      obtain ⟨e1, e2⟩ := isRat_inj i0 i
      rw [← e1, ← e2] at r
      exact q0 w H' S r
    have hN : (∀ n u, ¬ IsRat l n u) → ∀ H', Same H H' → Q .non H' := fun no => absurd i0 (no n0 u0)
    refine ⟨_, rfl, .str (S l), _, _, _, true, rfl, .ty _, .base (.str _), kit_ty (by decide +kernel), true, rfl, iteF ?_⟩
    obtain ⟨A1, st, B, e, hA, hB, hst⟩ : ∃ A st B, Txt.partition (S l) (S [47]) = (S A, S st, S B) ∧ A.length ≤ 60 ∧ B.length ≤ 60 ∧ ((st = [] ∧ A = l ∧ 47 ∉ l) ∨ (st = [47] ∧ l = A ++ 47 :: B ∧ 47 ∉ A)) := by
      rcases split_at 47 l with f | ⟨p, q, rfl, f⟩
      · exact ⟨_, _, _, part_none f, hl, by simp, .inl ⟨rfl, rfl, f⟩⟩
      · rw [List.length_append, List.length_cons] at hl
        exact ⟨_, _, _, part_some f, by omega, by omega, .inr ⟨rfl, rfl, f⟩⟩
    refine ⟨_, rfl, ⟨_, rfl⟩, S l, S [47], rfl, rfl, rfl, by rw [S_len, sizeLine_eq]; omega, fun p hp => ?_⟩
    rw [e]
    refine ⟨p, _, rfl, SqT.of upd_same, rfl, _, _, rfl, _, _, rfl, _, _, rfl, rfl, ?_⟩
    have S0 : Same H (upd H p (.tup [.str (S A1), .str (S st), .str (S B)])) := same_new hp
    generalize (upd H p (.tup [.str (S A1), .str (S st), .str (S B)])) = H0 at S0 ⊢
    refine ⟨fun σ' H' => ∃ W2 lw, σ' = [some (.str (S l)), some (.str (S A1)), some (.str (S st)), some (.str (S B)), some (.ref lw), none, none, none, none] ∧ Same H H' ∧ H' lw = some (.lst [.str (S (bare A1)), .str (S W2)]) ∧
      W2.length ≤ 60 ∧ ∀ n u, IsRat l n u → bare A1 = TL.numL n.natAbs ∧ decide (A1.head? = some 45) = decide (n < 0) ∧ W2 = TL.numL u.natAbs, ?first, ?rest⟩
    case first =>
      refine ⟨_, rfl, ⟨_, rfl⟩, S A1, S [45], rfl, rfl, by rw [S_len, sizeLine_eq]; omega, ?_⟩
      rw [bare_S]
      rcases hst with ⟨rfl, rfl, f⟩ | ⟨rfl, rfl, f⟩
      · refine ⟨_, rfl, false, ⟨(by show 0 ≤ sizeLine; decide), rfl⟩, iteF ⟨(by show 2 ≤ sizeLine; decide), fun lw nlw slw => ?_⟩⟩
        refine ⟨[49], lw, rfl, S0.trans (same_new nlw), upd_same, by decide, fun n u i => ?_⟩
        obtain ⟨rfl, rfl⟩ := rat_plain i f
        exact ⟨bare_int n, head_int n, (TL.numL_lt (n := 1) (by decide)).symm⟩
      · refine ⟨_, rfl, true, ⟨(by show 1 ≤ sizeLine; decide), rfl⟩, iteT ⟨_, rfl, (by show 2 ≤ sizeLine; decide), fun lw nlw slw => ?_⟩⟩
        refine ⟨B, lw, rfl, S0.trans (same_new nlw), upd_same, hB, fun n u i => ?_⟩
        obtain ⟨_, rfl, rfl⟩ := rat_stroke i f
        exact ⟨bare_int n, head_int n, rfl⟩
    case rest =>
      rintro σ' H1 ⟨W2, lw, rfl, S1, hlw, hW, fact⟩
      have hb : (bare A1).length ≤ 60 := Nat.le_trans (bare_len A1) hA
      have two : ∀ {x : V}, x ∈ [V.str (S (bare A1)), V.str (S W2)] → ∃ z, x = .str (S z) ∧ (z = bare A1 ∨ z = W2) := fun {x} hx => by
        rcases List.mem_cons.mp hx with e | hx
        · exact ⟨_, e, .inl rfl⟩
        · exact ⟨_, List.mem_singleton.mp hx, .inr rfl⟩
      refine ⟨_, rfl, lw, rfl, ⟨_, SqL.of hlw⟩, fun D hD => ?_⟩
      refine lc_rel (xs := [.str (S (bare A1)), .str (S W2)]) (fun x y _ => ∃ z, x = .str (S z) ∧ y = .bl (figs z)) (fun _ _ _ _ _ h => h) hD (SqL.of hlw) (by show 2 < sizeLine; decide) (fun _ => rfl) ?_ ?_
      · intro x hx H' Q' S' k
        obtain ⟨z, rfl, _⟩ := two hx
        exact ⟨_, rfl, _, rfl, k _ H' (Same.refl _) ⟨_, rfl, rfl⟩⟩
      · rintro ys H2 S2 dy pr
        obtain rfl : ys = [.bl (figs (bare A1)), .bl (figs W2)] := by
          cases pr with
          | cons e1 pr =>
            cases pr with
            | cons e2 pr =>
              cases pr
              obtain ⟨z1, h1, rfl⟩ := e1
              obtain ⟨z2, h2, rfl⟩ := e2
              rw [str_S h1, str_S h2]
        refine ⟨D, [figs (bare A1), figs W2], rfl, SqL.of dy, _, rfl, ?_⟩
        by_cases hf : figs (bare A1) = true ∧ figs W2 = true
        · rw [hf.1, hf.2]
          refine iteF ?_
          have hlw2 := S2 _ _ hlw
          refine ⟨_, rfl, lw, rfl, ⟨_, SqL.of hlw2⟩, fun D2 hD2 => ?_⟩
          refine lc_rel (xs := [.str (S (bare A1)), .str (S W2)]) (fun x y _ => ∃ z, x = .str (S z) ∧ y = .int ((digitsVal z : Nat) : Int)) (fun _ _ _ _ _ h => h) hD2 (SqL.of hlw2) (by show 2 < sizeLine; decide) (fun _ => rfl) ?_ ?_
          · intro x hx H' Q' S' k
            obtain ⟨z, rfl, hz⟩ := two hx
            refine ⟨_, rfl, _, rfl, ?_, ?_, k _ H' (Same.refl _) ⟨_, rfl, rfl⟩⟩
            · rcases hz with rfl | rfl
              · exact hf.1
              · exact hf.2
            · rcases hz with rfl | rfl <;> omega
          · rintro ys H3 S3 dy3 pr
            obtain rfl : ys = [.int ((digitsVal (bare A1) : Nat) : Int), .int ((digitsVal W2 : Nat) : Int)] := by
              cases pr with
              | cons e1 pr =>
                cases pr with
                | cons e2 pr =>
                  cases pr
                  obtain ⟨z1, h1, rfl⟩ := e1
                  obtain ⟨z2, h2, rfl⟩ := e2
                  rw [str_S h1, str_S h2]
            have v1 := digits_small hf.1 hb
            have v2 := digits_small hf.2 hW
            have same3 := S1.trans (S2.trans S3)
            refine ⟨D2, _, rfl, SqL.of dy3, rfl, _, _, rfl, _, _, rfl, rfl, ?_⟩
            refine ⟨_, rfl, rfl, _, rfl, ite2 (fun c => ?_) (fun c => ?_)⟩
            · have z := of_decide_eq_true c
              injection z with z
              refine hN (fun n u i => ?_) _ same3
              obtain ⟨_, _, e3⟩ := fact n u i
              rw [e3, TL.numL_val] at z
              have := i.1.pos
              omega
            have u0 : ((digitsVal W2 : Nat) : Int) ≠ 0 := fun z => c (decide_eq_true (by rw [z]))
            refine ⟨fun σ' H' => ∃ w, σ' = [some (.str (S l)), some (.str (S A1)), some (.str (S st)), some (.str (S B)), some (.ref lw), some (.int ((digitsVal (bare A1) : Nat) : Int)), some (.int ((digitsVal W2 : Nat) : Int)), some w, none] ∧ Same H H' ∧
              RatAt a.Ratio H' w (rNum (if A1.head? = some 45 then -((digitsVal (bare A1) : Nat) : Int) else ((digitsVal (bare A1) : Nat) : Int)) ((digitsVal W2 : Nat) : Int)) (rUnd (if A1.head? = some 45 then -((digitsVal (bare A1) : Nat) : Int) else ((digitsVal (bare A1) : Nat) : Int)) ((digitsVal W2 : Nat) : Int)), ?_, ?_⟩
            · refine ⟨_, rfl, ⟨_, rfl⟩, S A1, S [45], rfl, rfl, _, rfl, ?_⟩
              rw [starts_dash]
              have sm : (((digitsVal W2 : Nat) : Int)).natAbs < 2 ^ 200 := Nat.lt_of_lt_of_le (show (((digitsVal W2 : Nat) : Int)).natAbs < 10 ^ 60 by omega) (by decide +kernel)
              by_cases hd : A1.head? = some 45
              · rw [decide_eq_true hd, if_pos hd]
                refine iteT ⟨_, rfl, _, rfl, _, rfl, ?_⟩
                intro x dx c8 c9 c10
                exact mk_at u0 sm c8 c9 c10 fun H4 S4 hr => ⟨rfl, _, rfl, same3.trans S4, hr⟩
              · rw [decide_eq_false hd, if_neg hd]
                refine iteF ⟨_, rfl, _, rfl, ?_⟩
                intro x dx c8 c9 c10
                exact mk_at u0 sm c8 c9 c10 fun H4 S4 hr => ⟨rfl, _, rfl, same3.trans S4, hr⟩
            · rintro σ' H4 ⟨w, rfl, S4, hw⟩
              generalize hN0 : (if A1.head? = some 45 then -((digitsVal (bare A1) : Nat) : Int) else ((digitsVal (bare A1) : Nat) : Int)) = N0 at hw
              generalize hU0 : ((digitsVal W2 : Nat) : Int) = U0 at hw u0
              have bn : N0.natAbs < 10 ^ 64 := Nat.lt_of_lt_of_le (m := 10 ^ 60) (by rw [← hN0]; split <;> omega) (by decide +kernel)
              have bu : U0.natAbs < 10 ^ 64 := Nat.lt_of_lt_of_le (m := 10 ^ 60) (by rw [← hU0]; omega) (by decide +kernel)
              have red := red_of (n := N0) u0
              obtain ⟨x, dx, rfl, hx⟩ := hw
              refine ⟨_, rfl, x, dx, _, rfl, hx, _, _, _, rfl, ⟨x, dx, rfl, hx⟩, Nat.lt_of_le_of_lt (num_le u0) bn, red.pos, Nat.lt_of_le_of_lt (und_le u0) bu, fun H5 S5 => ⟨_, rfl, rfl, _, rfl, ite2 (fun c => ?_) (fun c => ?_)⟩⟩
              · have e := str_S (of_decide_eq_true c)
                exact ⟨_, rfl, hS _ _ ⟨red, e.symm⟩ _ _ (S4.trans S5) ⟨x, dx, rfl, S5 _ _ hx⟩⟩
              · refine hN (fun n u i => ?_) _ (S4.trans S5)
                obtain ⟨e1, e2, e3⟩ := fact n u i
                have eU : U0 = u := by
                  rw [← hU0, e3, TL.numL_val]
                  have := i.1.pos
                  omega
                have eN : N0 = n := by
                  rw [← hN0, e1, TL.numL_val]
                  by_cases hn : n < 0
                  · rw [if_pos (of_decide_eq_true (e2.trans (decide_eq_true hn)))]
                    omega
                  · rw [if_neg fun z => hn (of_decide_eq_true (e2.symm.trans (decide_eq_true z)))]
                    omega
                rw [eU, eN, i.1.same.1, i.1.same.2] at c
                exact c (decide_eq_true (by rw [i.2]))
        · have e : ([figs (bare A1), figs W2].all id) = false := by
            cases h1 : figs (bare A1)
            · rfl
            · cases h2 : figs W2
              · rfl
              · exact absurd ⟨h1, h2⟩ hf
          rw [e]
          refine iteT (hN (fun n u i => ?_) _ (S1.trans S2))
          obtain ⟨e1, _, e3⟩ := fact n u i
          exact hf ⟨by rw [e1]; exact numL_figs _, by rw [e3]; exact numL_figs _⟩
end
end My

namespace My
open PySem PySem.Spec PyProof.Rows L2 G SX NumText
abbrev s_check_point : Stmt := topS 21
theorem sc_check_point : FnScope ["value"] ["value"] (defScope s_check_point) := ⟨rfl, rfl, rfl, by decide +kernel, rfl, by decide +kernel, by decide +kernel⟩

abbrev s_read_point : Stmt := topS 22
theorem sc_read_point : FnScope ["value", "words", "read", "word"] ["value"] (defScope s_read_point) := ⟨rfl, rfl, rfl, by decide +kernel, rfl, by decide +kernel, by decide +kernel⟩

abbrev s_Point___init__ : Stmt := inClass (topS 23) 0
theorem sc_Point___init__ : FnScope ["self", "x", "y"] ["self", "x", "y"] (defScope s_Point___init__) := ⟨rfl, rfl, rfl, by decide +kernel, rfl, by decide +kernel, by decide +kernel⟩

abbrev s_Point_text : Stmt := inClass (topS 23) 1
theorem sc_Point_text : FnScope ["self"] ["self"] (defScope s_Point_text) := ⟨rfl, rfl, rfl, by decide +kernel, rfl, by decide +kernel, by decide +kernel⟩

abbrev s_Point_of : Stmt := inClass (topS 23) 2
theorem sc_Point_of : FnScope ["text", "point"] ["text"] (defScope s_Point_of) := ⟨rfl, rfl, rfl, by decide +kernel, rfl, by decide +kernel, by decide +kernel⟩

abbrev s_Point___eq__ : Stmt := inClass (topS 23) 6
theorem sc_Point___eq__ : FnScope ["self", "other"] ["self", "other"] (defScope s_Point___eq__) := ⟨rfl, rfl, rfl, by decide +kernel, rfl, by decide +kernel, by decide +kernel⟩

def IsPt (l : List Nat) (n u m t : Int) : Prop := ∃ p q, IsRat p n u ∧ IsRat q m t ∧ l = p ++ 32 :: q
theorem isPt_spl {l : List Nat} {n u m t : Int} (h : IsPt l n u m t) : ∃ p q, TL.spl [32] 0 [] l = [p, q] ∧ IsRat p n u ∧ IsRat q m t := by
  obtain ⟨p, q, h1, h2, rfl⟩ := h
  have f1 : (32 : Nat) ∉ p := by rw [h1.2]; exact rat32 n u
  have f2 : (32 : Nat) ∉ q := by rw [h2.2]; exact rat32 m t
  exact ⟨p, q, by rw [spl_some f1, spl_none f2], h1, h2⟩
theorem isPt_of {l p q : List Nat} {n u m t : Int} (h : TL.spl [32] 0 [] l = [p, q]) (h1 : IsRat p n u) (h2 : IsRat q m t) : IsPt l n u m t := ⟨p, q, h1, h2, spl_two h⟩
theorem isPt_inj {l : List Nat} {n u m t n' u' m' t' : Int} (h : IsPt l n u m t) (h' : IsPt l n' u' m' t') : n = n' ∧ u = u' ∧ m = m' ∧ t = t' := by
  obtain ⟨p, q, e, h1, h2⟩ := isPt_spl h
  obtain ⟨p', q', e', h1', h2'⟩ := isPt_spl h'
  rw [e] at e'
  obtain ⟨e1, e2⟩ := List.cons.inj e'
  obtain ⟨e2, _⟩ := List.cons.inj e2
  subst e1 e2
  obtain ⟨a1, a2⟩ := isRat_inj h1 h1'
  obtain ⟨a3, a4⟩ := isRat_inj h2 h2'
  exact ⟨a1, a2, a3, a4⟩
abbrev ptFs (v w : V) : List (Str × V) := [("x", v), ("y", w)]
def PtAt (C CP : Addr) (H : Hp) (z : V) (n u m t : Int) : Prop := ∃ b dx v w, z = .ref b ∧ H b = some (.ins CP dx (ptFs v w)) ∧ RatAt C H v n u ∧ RatAt C H w m t
theorem PtAt.same {C CP : Addr} {H H' : Hp} {z : V} {n u m t : Int} (S : Same H H') (h : PtAt C CP H z n u m t) : PtAt C CP H' z n u m t := let ⟨b, dx, v, w, e, h1, h2, h3⟩ := h; ⟨b, dx, v, w, e, S _ _ h1, h2.same S, h3.same S⟩
/-- whether a value is a number -/
def IsN (K : PySem.W.Frag) (C : Addr) (H : Hp) (v : V) (b : Bool) : Prop := ∃ t b1 b2 b3, TyX K H v t ∧ PySem.W.kitOne K t (.type "int") = some b1 ∧ PySem.W.kitOne K t (.type "bool") = some b2 ∧ PySem.W.kitOne K t (.ref C) = some b3 ∧ ((b1 && !b2) || b3) = b
def NoP (K : PySem.W.Frag) (C : Addr) (H : Hp) (v w : V) : Prop := IsN K C H v false ∨ (IsN K C H v true ∧ IsN K C H w false)
def spPInit (K : PySem.W.Frag) (C CP B : Addr) : Sp := fun vs H Q E => ∃ p dx v w, vs = [.ref p, v, w] ∧ H p = some (.ins CP dx []) ∧
  ((∃ n u m t, NumAt C H v n u ∧ NumAt C H w m t ∧ ∀ H', (∀ b o, b ≠ p → H b = some o → H' b = some o) → PtAt C CP H' (.ref p) n u m t → Q .non H') ∨
   (NoP K C H v w ∧ ∀ d t H', Same H H' → H' t = some (.tup [v, w]) → H' d = some (.xd [("value", .ref t)]) → E (.ref B) (some d) H'))
def spChk (K : PySem.W.Frag) (CP B : Addr) : Sp := fun vs H Q E => ∃ v t b, vs = [v] ∧ TyX K H v t ∧ PySem.W.kitOne K t (.ref CP) = some b ∧ (b = true → Q .non H) ∧ (b = false → ∀ d H', Same H H' → H' d = some (.xd [("value", v)]) → E (.ref B) (some d) H')
def spPText (C CP : Addr) : Sp := fun vs H Q _ => ∃ v n u m t, vs = [v] ∧ PtAt C CP H v n u m t ∧ (n.natAbs < 10 ^ 64 ∧ 0 < u ∧ u.natAbs < 10 ^ 64) ∧ (m.natAbs < 10 ^ 64 ∧ 0 < t ∧ t.natAbs < 10 ^ 64) ∧ ∀ H', Same H H' → Q (.str (S (ratL n u ++ 32 :: ratL m t))) H'
def spPOf (C CP : Addr) : Sp := fun vs H Q _ => ∃ l n u m t, vs = [.str (S l)] ∧ l.length ≤ 60 ∧ IsPt l n u m t ∧ ∀ w H', Same H H' → PtAt C CP H' w n u m t → Q w H'
def spPEq (K : PySem.W.Frag) (C CP : Addr) : Sp := fun vs H Q _ => ∃ v w n u m t, vs = [v, w] ∧ PtAt C CP H v n u m t ∧ ((∃ n' u' m' t', PtAt C CP H w n' u' m' t' ∧ ∀ H', Same H H' → Q (.bl (decide (n = n' ∧ u = u' ∧ m = m' ∧ t = t'))) H') ∨ (NotR K CP H w ∧ Q (.bl false) H))
theorem no_ins0 {C CP dx : Addr} : ∀ d f g, HO.ins CP dx [] ≠ .ins C d [("number", f), ("under", g)] := fun d f g z => nomatch (HO.ins.inj z).2.2
theorem no_ins1 {C CP dx : Addr} {v : V} : ∀ d f g, HO.ins CP dx [("x", v)] ≠ .ins C d [("number", f), ("under", g)] := fun d f g z => by
  have := congrArg List.length (HO.ins.inj z).2.2
  simp at this
theorem RatAt.off {C : Addr} {H H' : Hp} {v : V} {n u : Int} {p : Addr} (k : ∀ b o, b ≠ p → H b = some o → H' b = some o) (hp : ∃ o, H p = some o ∧ ∀ d f g, o ≠ .ins C d [("number", f), ("under", g)]) (h : RatAt C H v n u) : RatAt C H' v n u := by
  obtain ⟨b, d, e, h⟩ := h
  refine ⟨b, d, e, k b _ (fun z => ?_) h⟩
  obtain ⟨o, h1, h2⟩ := hp
  rw [z, h1] at h
  exact h2 _ _ _ (Option.some.inj h)
theorem NumAt.off {C : Addr} {H H' : Hp} {v : V} {n u : Int} {p : Addr} (k : ∀ b o, b ≠ p → H b = some o → H' b = some o) (hp : ∃ o, H p = some o ∧ ∀ d f g, o ≠ .ins C d [("number", f), ("under", g)]) (h : NumAt C H v n u) : NumAt C H' v n u := h.imp id fun h => h.off k hp
/-- what Point(v, w) asks -/
theorem mk_pt {K : PySem.W.Frag} {C CP B x dx : Addr} {H : Hp} {v w : V} {n u m t : Int} {P : VK} {E : XK} (hv : NumAt C H v n u) (hw : NumAt C H w m t) (hx : H x = none) (hdx : H dx = none) (ne : dx ≠ x) (q : ∀ H', Same H H' → PtAt C CP H' (.ref x) n u m t → P .non H') :
    spPInit K C CP B [.ref x, v, w] (upd (upd H dx (.own x)) x (.ins CP dx [])) P E := by
  have S : Same H (upd (upd H dx (.own x)) x (.ins CP dx [])) := fun b o e => by
    rw [upd_ne (ne_of_none e hx), upd_ne (ne_of_none e hdx)]
    exact e
  exact ⟨x, dx, v, w, rfl, upd_same, .inl ⟨n, u, m, t, hv.same S, hw.same S, fun H' k pt => q H' (fun b o e => k b o (ne_of_none e hx) (S b o e)) pt⟩⟩
theorem mk_nopt {K : PySem.W.Frag} {C CP B : Addr} {H : Hp} {v w : V} {Q : Addr → VK} {E : XK} (no : ∀ H', Same H H' → NoP K C H' v w) (q : ∀ d t H', Same H H' → H' t = some (.tup [v, w]) → H' d = some (.xd [("value", .ref t)]) → E (.ref B) (some d) H') :
    ∀ x dx, H x = none → H dx = none → dx ≠ x → spPInit K C CP B [.ref x, v, w] (upd (upd H dx (.own x)) x (.ins CP dx [])) (Q x) E := fun x dx hx hdx ne => by
  have S : Same H (upd (upd H dx (.own x)) x (.ins CP dx [])) := fun b o e => by
    rw [upd_ne (ne_of_none e hx), upd_ne (ne_of_none e hdx)]
    exact e
  exact ⟨x, dx, v, w, rfl, upd_same, .inr ⟨no _ S, fun d t H' S' => q d t H' (S.trans S')⟩⟩
theorem ptTy {K : PySem.W.Frag} {mg : Str → Option Value} {a : Ad} (T : Txt K mg a) {H : Hp} {v : V} {n u m t : Int} (h : PtAt a.Ratio a.Point H v n u m t) : TyX K H v (.ref a.Point) := by
  obtain ⟨x, dx, _, _, rfl, e, _⟩ := h
  exact .base (.ins e T.clP T.riP.ca T.riP.cn T.riP.ct T.riP.cm)
section
variable {P : Program} {w : World} {K : PySem.W.Frag} {mg : Str → Option Value} {base : Heap} {a : Ad}
theorem ok_check_point {fd : FuncData} (F : Fun K "check_point" "check_point" s_check_point a.check_point fd) (T : Txt K mg a)
    {fd_init : FuncData} (G_init : FnOk P w K mg base CX0 1 a.init fd_init ["self", "value"] (spErrInit K)) (b_init : Binds K fd_init ["self", "value"] []) :
    FnOk P w K mg base (L2.CX P w) 3 a.check_point fd ["value"] (spChk K a.Point a.BadPoint) := by
  refine F.okX sc_check_point (fun vs H Q E h => ?len) (fun cdv A outer s H vs Q E hr h => ⟨_,
      (pss_one (ps_if (pt_not (pt_val (pe_callB call_isi (by rfl) T.n_isinstance (by decide +kernel) (pa_cons (pv 0) (pa_cons (pe_glob (v := .ref a.Point) (by rfl) T.g_Point rfl) pa_nil))))) (pss_one (ps_raise rfl (takes_of rfl rfl rfl rfl) (pmk_oex T.c_BadPoint.ox T.i_BadPoint T.tI G_init (hr.mono (by omega)) b_init .nil pass0 (by rfl) T.g_BadPoint (pa_cons (pv 0) pa_nil)))) pss_nil)), ?body⟩)
  case len => obtain ⟨v, t, b, rfl, _⟩ := h; rfl
  case body =>
    obtain ⟨v, t, b, rfl, ty, k, q1, q2⟩ := h
    refine ⟨_, rfl, _, _, _, _, b, rfl, .own _, ty, k, b, rfl, ?_⟩
    cases b
    · refine iteT ?_
      exact ⟨_, rfl, raise_told T.c_BadPoint fun d H' S e => q2 rfl d H' S e⟩
    · exact iteF (q1 rfl)
theorem ok_Point___init__ {fd : FuncData} (F : Fun K "__init__" "Point.__init__" s_Point___init__ a.Point___init__ fd) (T : Txt K mg a)
    {fd_as_ratio : FuncData} (G_as_ratio : FnOk P w K mg base CX0 4 a.as_ratio fd_as_ratio ["number"] (spAs K a.Ratio)) (b_as_ratio : Binds K fd_as_ratio ["number"] [])
    {fd_is_number : FuncData} (G_is_number : FnOk P w K mg base CX0 2 a.is_number fd_is_number ["value"] (spIsNum K a.Ratio)) (b_is_number : Binds K fd_is_number ["value"] [])
    {fd_init : FuncData} (G_init : FnOk P w K mg base CX0 1 a.init fd_init ["self", "value"] (spErrInit K)) (b_init : Binds K fd_init ["self", "value"] []) :
    FnOk P w K mg base (L2.CX P w) 6 a.Point___init__ fd ["self", "x", "y"] (spPInit K a.Ratio a.Point a.BadPoint) := by
  refine F.okX sc_Point___init__ (fun vs H Q E h => ?len) (fun cdv A outer s H vs Q E hr h => ⟨_,
      (pss_cons (ps_if (PW.pt (pw_or (pt_not (pt_val (pe_call G_is_number (hr.mono (by omega)) (by rfl) T.g_is_number T.k_is_number b_is_number .nil pass0 (pa_cons (pv 1) pa_nil)))) (pw_or1 (pt_not (pt_val (pe_call G_is_number (hr.mono (by omega)) (by rfl) T.g_is_number T.k_is_number b_is_number .nil pass0 (pa_cons (pv 2) pa_nil))))))) (pss_one (ps_raise rfl (takes_of rfl rfl rfl rfl) (pmk_oex T.c_BadPoint.ox T.i_BadPoint T.tI G_init (hr.mono (by omega)) b_init .nil pass0 (by rfl) T.g_BadPoint (pa_cons (pe_tup (pa_cons (pv 1) (pa_cons (pv 2) pa_nil))) pa_nil)))) pss_nil)
      (pss_cons (ps_fld (pv 0) (pe_call G_as_ratio (hr.mono (by omega)) (by rfl) T.g_as_ratio T.k_as_ratio b_as_ratio .nil pass0 (pa_cons (pv 1) pa_nil)) rfl)
      (pss_one (ps_fld (pv 0) (pe_call G_as_ratio (hr.mono (by omega)) (by rfl) T.g_as_ratio T.k_as_ratio b_as_ratio .nil pass0 (pa_cons (pv 2) pa_nil)) rfl)))), ?body⟩)
  case len => obtain ⟨p, dx, v, w, rfl, _⟩ := h; rfl
  case body =>
    obtain ⟨p, dx, v, w, rfl, hp, h⟩ := h
    rcases h with ⟨n, u, m, t, hv, hw, q⟩ | ⟨no, q⟩
    · obtain ⟨ty, b1, b2, b3, t1, k1, k2, k3, e1⟩ := numTy T hv
      obtain ⟨ty', c1, c2, c3, t1', k1', k2', k3', e2⟩ := numTy T hw
      refine ⟨_, rfl, v, ty, b1, b2, b3, rfl, t1, k1, k2, k3, _, rfl, ?_⟩
      rw [e1]
      refine iteF ?_
      refine ⟨_, rfl, w, ty', c1, c2, c3, rfl, t1', k1', k2', k3', _, rfl, ?_⟩
      rw [e2]
      refine iteF ?_
      refine ⟨_, rfl, v, n, u, rfl, hv, fun v1 H1 S1 hv1 => ?_⟩
      refine ⟨_, rfl, _, _, _, _, rfl, S1 _ _ hp, T.clP, T.nX, by decide, ?_⟩
      have k1 : ∀ b o, b ≠ p → H b = some o → (upd H1 p (.ins a.Point dx [("x", v1)])) b = some o := fun b o n e => by
        rw [upd_ne n]
        exact S1 _ _ e
      have hw1 := NumAt.off k1 ⟨_, hp, no_ins0⟩ hw
      refine ⟨_, rfl, w, m, t, rfl, hw1, fun w1 H2 S2 hw2 => ?_⟩
      refine ⟨_, rfl, _, _, _, _, rfl, S2 _ _ upd_same, T.clP, T.nY, (by show 1 < 1000; decide), ?_⟩
      refine q _ (fun b o n e => ?_) ⟨p, dx, v1, w1, rfl, upd_same, ?_, ?_⟩
      · rw [upd_ne n]
        exact S2 _ _ (k1 b o n e)
      · have h1 : RatAt a.Ratio (upd H1 p (.ins a.Point dx [("x", v1)])) v1 n u := RatAt.off (fun b o n e => by rw [upd_ne n]; exact e) ⟨_, S1 _ _ hp, no_ins0⟩ hv1
        exact RatAt.off (p := p) (fun b o n e => by rw [upd_ne n]; exact e) ⟨_, S2 _ _ upd_same, no_ins1⟩ (h1.same S2)
      · exact RatAt.off (p := p) (fun b o n e => by rw [upd_ne n]; exact e) ⟨_, S2 _ _ upd_same, no_ins1⟩ hw2
    · rcases no with ⟨t1, b1, b2, b3, ty1, k1, k2, k3, e1⟩ | ⟨⟨t1, b1, b2, b3, ty1, k1, k2, k3, e1⟩, ⟨t2, c1, c2, c3, ty2, k4, k5, k6, e2⟩⟩
      · refine ⟨_, rfl, v, t1, b1, b2, b3, rfl, ty1, k1, k2, k3, _, rfl, ?_⟩
        rw [e1]
        refine iteT ⟨_, rfl, _, rfl, (by show 2 ≤ sizeLine; decide), fun t ht => raise_told T.c_BadPoint fun d H' S e => q d t H' ((same_new ht).trans S) (S _ _ upd_same) e⟩
      · refine ⟨_, rfl, v, t1, b1, b2, b3, rfl, ty1, k1, k2, k3, _, rfl, ?_⟩
        rw [e1]
        refine iteF ⟨_, rfl, w, t2, c1, c2, c3, rfl, ty2, k4, k5, k6, _, rfl, ?_⟩
        rw [e2]
        refine iteT ⟨_, rfl, _, rfl, (by show 2 ≤ sizeLine; decide), fun t ht => raise_told T.c_BadPoint fun d H' S e => q d t H' ((same_new ht).trans S) (S _ _ upd_same) e⟩
theorem ok_Point_text {fd : FuncData} (F : Fun K "text" "Point.text" s_Point_text a.Point_text fd) (T : Txt K mg a)
    {fd_Ratio_text : FuncData} (G_Ratio_text : FnOk P w K mg base CX0 2 a.Ratio_text fd_Ratio_text ["self"] (spText a.Ratio)) (b_Ratio_text : Binds K fd_Ratio_text ["self"] []) :
    FnOk P w K mg base CX0 4 a.Point_text fd ["self"] (spPText a.Ratio a.Point) := by
  refine F.ok sc_Point_text (fun vs H Q E h => ?len) (fun cdv A outer s H vs Q E hr h => ⟨_,
      (pss_one (ps_ret (pe_joined (.cons (pe_fmt (pe_prop (pe_fld (pv 0) rfl) T.cl T.tR.choose_spec G_Ratio_text (hr.mono (by omega)) b_Ratio_text .nil pass0 (by rfl))) (.cons pe_str (.cons (pe_fmt (pe_prop (pe_fld (pv 0) rfl) T.cl T.tR.choose_spec G_Ratio_text (hr.mono (by omega)) b_Ratio_text .nil pass0 (by rfl))) .nil)))))), ?body⟩)
  case len => obtain ⟨v, n, u, m, t, rfl, _⟩ := h; rfl
  case body =>
    obtain ⟨v, n, u, m, t, rfl, ⟨x, dx, v1, w1, rfl, hx, ⟨y, dy, rfl, hy⟩, ⟨z, dz, rfl, hz⟩⟩, ⟨n1, u0, u1⟩, ⟨m1, t0, t1⟩, q⟩ := h
    have l1 : (ratL n u).length ≤ 131 := ratL_le (by decide) (by decide) n1 u1
    have l2 : (ratL m t).length ≤ 131 := ratL_le (by decide) (by decide) m1 t1
    refine ⟨_, rfl, _, _, _, _, _, rfl, hx, T.clP, T.nX, rfl, y, dy, _, rfl, hy, _, n, u, rfl, ⟨y, dy, rfl, hy⟩, n1, u0, u1, fun H1 S1 => .inl ⟨_, rfl, by rw [S_len, sizeLine_eq]; omega, _, rfl, ?_, _, rfl, ?_, _, rfl, _, _, _, _, _, rfl, S1 _ _ hx, T.clP, T.nY, rfl, z, dz, _, rfl, S1 _ _ hz, _, m, t, rfl, ⟨z, dz, rfl, S1 _ _ hz⟩, m1, t0, t1, fun H2 S2 => .inl ⟨_, rfl, by rw [S_len, sizeLine_eq]; omega, _, rfl, ?_, ?_⟩⟩⟩
    · rw [emp_cat, S_len, sizeLine_eq]
      omega
    · rw [emp_cat, blank_S, S_cat, S_len, sizeLine_eq, List.length_append, List.length_singleton]
      omega
    · rw [emp_cat, blank_S, S_cat, S_cat, S_len, sizeLine_eq, List.length_append, List.length_append, List.length_singleton]
      omega
    · rw [emp_cat, blank_S, S_cat, S_cat, List.append_assoc]
      exact q _ (S1.trans S2)
theorem ok_read_point {fd : FuncData} (F : Fun K "read_point" "read_point" s_read_point a.read_point fd) (T : Txt K mg a)
    {fd_Point___init__ : FuncData} (G_Point___init__ : FnOk P w K mg base (L2.CX P w) 6 a.Point___init__ fd_Point___init__ ["self", "x", "y"] (spPInit K a.Ratio a.Point a.BadPoint)) (b_Point___init__ : Binds K fd_Point___init__ ["self", "x", "y"] [])
    {fd_read_ratio : FuncData} (G_read_ratio : FnOk P w K mg base CX0 4 a.read_ratio fd_read_ratio ["value"] (spRead a.Ratio)) (b_read_ratio : Binds K fd_read_ratio ["value"] []) :
    FnOk P w K mg base CX0 8 a.read_point fd ["value"] (spPOf a.Ratio a.Point) := by
  refine F.ok sc_read_point (fun vs H Q E h => ?len) (fun cdv A outer s H vs Q E hr h => ⟨_,
      (Evl.pss_cut (ps_set (i := 1) sc_read_point.nd rfl (Or.inl rfl) (pe_ifExp (pt_val (pe_callB call_isi (by rfl) T.n_isinstance (by decide +kernel) (pa_cons (pv 0) (pa_cons (pe_bltn (v := .ty "str") (u := .type "str") (by rfl) T.n_str (by decide +kernel) rfl) pa_nil)))) (pe_m1 PySem.F.slot_str_split PySem.F.type_str_split mt_split (pv 0) pe_str) (pe_lstS pa_nil)))
      (pss_cons (ps_setLc (i := 2) (own := [("word", 3)]) (g := gName 3) (tt := tYes) rfl sc_read_point.nd rfl rfl (sw_true rfl rfl rfl (by decide +kernel)) (pi_list (pv 1)) (blkOk_by (own := [("word", 3)]) (N := ["value", "words", "read", "word"]) (sc := defScope s_read_point) (by decide +kernel)) (fun _ _ _ _ _ => (pg_name (i := 3) sc_read_point.nd rfl (Or.inl rfl))) (fun _ _ _ _ _ => pts_nil) (fun _ _ _ _ _ => (pe_call G_read_ratio (hr.mono (by omega)) (by rfl) T.g_read_ratio T.k_read_ratio b_read_ratio .nil pass0 (pa_cons (pv 3) pa_nil))))
      (pss_cons (ps_if (PW.pt (pw_or (pt_cmpR op_ne (pe_callB call_len_seq (by rfl) T.n_len (by decide +kernel) (pa_cons (pv 2) pa_nil)) pe_int (nomark _)) (pw_or (pt_cmpR op_isN (pe_ix ix_list (pv 2) pe_int (fun _ _ => rfl)) pe_non (nomark _)) (pw_or1 (pt_cmpR op_isN (pe_ix ix_list (pv 2) pe_int (fun _ _ => rfl)) pe_non (nomark _)))))) (pss_one (ps_ret pe_non)) pss_nil)
      (pss_one (ps_ret (pe_make T.m_Point G_Point___init__ (hr.mono (by omega)) (by rfl) T.g_Point b_Point___init__ .nil passF (pa_cons (pe_ix ix_list (pv 2) pe_int (fun _ _ => rfl)) (pa_cons (pe_ix ix_list (pv 2) pe_int (fun _ _ => rfl)) pa_nil)))))))), ?body⟩)
  case len => obtain ⟨l, n, u, m, t, rfl, _⟩ := h; rfl
  case body =>
    obtain ⟨l, n, u, m, t, rfl, hl, ip, q⟩ := h
    obtain ⟨w1, w2, es, i1, i2⟩ := isPt_spl ip
    obtain ⟨n1, n2⟩ := spl_len 32 l.length l (Nat.le_refl _)
    have l1 : w1.length ≤ 60 := Nat.le_trans (n2 w1 (by rw [es]; simp)) hl
    have l2 : w2.length ≤ 60 := Nat.le_trans (n2 w2 (by rw [es]; simp)) hl
    refine ⟨fun σ' H' => ∃ lw, σ' = [some (.str (S l)), some (.ref lw), none, none] ∧ Same H H' ∧ H' lw = some (.lst [.str (S w1), .str (S w2)]), ?first, ?rest⟩
    case first =>
      refine ⟨_, rfl, .str (S l), _, _, _, true, rfl, .ty _, .base (.str _), kit_ty (by decide +kernel), true, rfl, iteT ?_⟩
      refine ⟨_, rfl, ⟨_, rfl⟩, S l, S [32], rfl, rfl, rfl, by rw [S_len, sizeLine_eq]; omega, fun lw nlw => ?_⟩
      refine ⟨lw, rfl, same_new nlw, upd_same.trans ?_⟩
      rw [split_S (by simp) (by decide), es]
      rfl
    case rest =>
      rintro σ' H1 ⟨lw, rfl, S1, hlw⟩
      refine ⟨_, rfl, lw, rfl, ⟨_, SqL.of hlw⟩, fun D hD => ?_⟩
      refine lc_rel (xs := [.str (S w1), .str (S w2)]) (fun x y H => (x = .str (S w1) ∧ RatAt a.Ratio H y n u) ∨ (x = .str (S w2) ∧ RatAt a.Ratio H y m t)) ?st hD (SqL.of hlw) (by show 2 < sizeLine; decide) (fun _ => rfl) ?_ ?_
      case st =>
        rintro x y H2 H3 k (⟨e, b, d, e2, hb⟩ | ⟨e, b, d, e2, hb⟩)
        · exact .inl ⟨e, b, d, e2, k _ _ hb fun _ z => nomatch z⟩
        · exact .inr ⟨e, b, d, e2, k _ _ hb fun _ z => nomatch z⟩
      · intro x hx H' Q' S' k
        rcases List.mem_cons.mp hx with rfl | hx
        · exact ⟨_, rfl, w1, n, u, rfl, l1, i1, fun w H' S hw => k w H' S (.inl ⟨rfl, hw⟩)⟩
        · obtain rfl := List.mem_singleton.mp hx
          exact ⟨_, rfl, w2, m, t, rfl, l2, i2, fun w H' S hw => k w H' S (.inr ⟨rfl, hw⟩)⟩
      · rintro ys H2 S2 dy pr
        have same2 := S1.trans S2
        obtain ⟨y1, y2, rfl, r1, r2⟩ : ∃ y1 y2, ys = [y1, y2] ∧ RatAt a.Ratio H2 y1 n u ∧ RatAt a.Ratio H2 y2 m t := by
          cases pr with
          | cons f1 pr =>
            cases pr with
            | cons f2 pr =>
              cases pr
              refine ⟨_, _, rfl, ?_, ?_⟩
              · rcases f1 with ⟨_, h⟩ | ⟨e, h⟩
                · exact h
                · rw [← str_S e] at i2
                  obtain ⟨e1, e2⟩ := isRat_inj i1 i2
                  rw [e1, e2]
                  exact h
              · rcases f2 with ⟨e, h⟩ | ⟨_, h⟩
                · rw [← str_S e] at i1
                  obtain ⟨e1, e2⟩ := isRat_inj i2 i1
                  rw [e1, e2]
                  exact h
                · exact h
        obtain ⟨b1, d1, rfl, hb1⟩ := r1
        obtain ⟨b2, d2, rfl, hb2⟩ := r2
        refine ⟨_, rfl, D, _, rfl, .inl (SqL.of dy), rfl, _, rfl, iteF ?_⟩
        refine ⟨_, rfl, _, _, _, _, rfl, rfl, SqL.of dy, rfl, rfl, _, rfl, iteF ?_⟩
        refine ⟨_, rfl, _, _, _, _, rfl, rfl, SqL.of dy, rfl, rfl, _, rfl, iteF ?_⟩
        refine ⟨_, rfl, _, _, _, _, rfl, rfl, SqL.of dy, rfl, _, rfl, _, _, _, _, rfl, rfl, SqL.of dy, rfl, ?_⟩
        intro x dx c8 c9 c10
        exact mk_pt (.inr ⟨b1, d1, rfl, hb1⟩) (.inr ⟨b2, d2, rfl, hb2⟩) c8 c9 c10 fun H3 S3 pt => ⟨rfl, q _ H3 (same2.trans S3) pt⟩
theorem ok_Point_of {fd : FuncData} (F : Fun K "of" "Point.of" s_Point_of a.Point_of fd) (T : Txt K mg a)
    {fd_read_point : FuncData} (G_read_point : FnOk P w K mg base CX0 8 a.read_point fd_read_point ["value"] (spPOf a.Ratio a.Point)) (b_read_point : Binds K fd_read_point ["value"] []) :
    FnOk P w K mg base CX0 9 a.Point_of fd ["text"] (spPOf a.Ratio a.Point) := by
  refine F.ok sc_Point_of (fun vs H Q E h => ?len) (fun cdv A outer s H vs Q E hr h => ⟨_,
      (pss_cons (ps_set (i := 1) sc_Point_of.nd rfl (Or.inl rfl) (pe_call G_read_point (hr.mono (by omega)) (by rfl) T.g_read_point T.k_read_point b_read_point .nil pass0 (pa_cons (pv 0) pa_nil)))
      (pss_cons (ps_if (pt_cmpR op_isN (pv 1) pe_non (nomark _)) (pss_one ps_never) pss_nil)
      (pss_one (ps_ret (pv 1))))), ?body⟩)
  case len => obtain ⟨l, n, u, m, t, rfl, _⟩ := h; rfl
  case body =>
    obtain ⟨l, n, u, m, t, rfl, hl, ip, q⟩ := h
    refine ⟨_, rfl, l, n, u, m, t, rfl, hl, ip, fun w H1 S1 hw => ?_⟩
    obtain ⟨b, dx, v, w, rfl, hb⟩ := id hw
    refine ⟨_, rfl, rfl, _, rfl, iteF ?_⟩
    exact ⟨_, rfl, q _ H1 S1 hw⟩
theorem ok_Point___eq__ {fd : FuncData} (F : Fun K "__eq__" "Point.__eq__" s_Point___eq__ a.Point___eq__ fd) (T : Txt K mg a)
    {fd_Ratio___eq__ : FuncData} (G_Ratio___eq__ : FnOk P w K mg base CX0 1 a.Ratio___eq__ fd_Ratio___eq__ ["self", "other"] (spEqq K a.Ratio)) (b_Ratio___eq__ : Binds K fd_Ratio___eq__ ["self", "other"] []) :
    FnOk P w K mg base CX0 4 a.Point___eq__ fd ["self", "other"] (spPEq K a.Ratio a.Point) := by
  refine F.ok sc_Point___eq__ (fun vs H Q E h => ?len) (fun cdv A outer s H vs Q E hr h => ⟨_,
      (pss_one (ps_ret (pe_and (pe_callB call_isi (by rfl) T.n_isinstance (by decide +kernel) (pa_cons (pv 1) (pa_cons (pe_glob (v := .ref a.Point) (by rfl) T.g_Point rfl) pa_nil))) (pe_and (pe_cmpR (op_eqK T.eqc (fnR G_Ratio___eq__ b_Ratio___eq__) (hr.mono (by omega)) pass0) (pe_fld (pv 0) rfl) (pe_fld (pv 1) rfl) (nomark _)) (pe_one (pe_cmpR (op_eqK T.eqc (fnR G_Ratio___eq__ b_Ratio___eq__) (hr.mono (by omega)) pass0) (pe_fld (pv 0) rfl) (pe_fld (pv 1) rfl) (nomark _))))))), ?body⟩)
  case len => obtain ⟨v, w, n, u, m, t, rfl, _⟩ := h; rfl
  case body =>
    obtain ⟨v, w, n, u, m, t, rfl, hv, h⟩ := h
    rcases h with ⟨n', u', m', t', hw, q⟩ | ⟨⟨ty, t1, k1⟩, q⟩
    · refine ⟨_, rfl, w, _, _, _, true, rfl, .own _, ptTy T hw, T.riP.ks, true, rfl, iteT ?_⟩
      obtain ⟨p1, e1, x1, y1, rfl, h1, ⟨a1, d1, rfl, hx1⟩, ⟨b1, f1, rfl, hy1⟩⟩ := hv
      obtain ⟨p2, e2, x2, y2, rfl, h2, ⟨a2, d2, rfl, hx2⟩, ⟨b2, f2, rfl, hy2⟩⟩ := hw
      have nfC : PySem.W.notFirst K a.Ratio (.ref a.Ratio) = true := by simp [PySem.W.notFirst]
      refine ⟨_, rfl, _, _, _, _, _, rfl, h1, T.clP, T.nX, rfl, _, rfl, _, _, _, _, _, rfl, h2, T.clP, T.nX, rfl, ?_⟩
      refine ⟨a1, d1, _, _, rfl, hx1, .ins hx2, nfC, _, _, n, u, rfl, ⟨a1, d1, rfl, hx1⟩, .inl ⟨n', u', ⟨a2, d2, rfl, hx2⟩, _, rfl, ite2 (fun c => ?_) (fun c => ?_)⟩⟩
      · obtain ⟨g1, g2⟩ := of_decide_eq_true c
        refine ⟨_, rfl, _, _, _, _, _, rfl, h1, T.clP, T.nY, rfl, _, rfl, _, _, _, _, _, rfl, h2, T.clP, T.nY, rfl, ?_⟩
        refine ⟨b1, f1, _, _, rfl, hy1, .ins hy2, nfC, _, _, m, t, rfl, ⟨b1, f1, rfl, hy1⟩, .inl ⟨m', t', ⟨b2, f2, rfl, hy2⟩, ?_⟩⟩
        have e : decide (m = m' ∧ t = t') = decide (n = n' ∧ u = u' ∧ m = m' ∧ t = t') := by
          by_cases k : m = m' ∧ t = t'
          · rw [decide_eq_true k, decide_eq_true ⟨g1, g2, k⟩]
          · rw [decide_eq_false k, decide_eq_false fun z => k z.2.2]
        rw [e]
        exact q _ (Same.refl _)
      · have e : decide (n = n' ∧ u = u' ∧ m = m' ∧ t = t') = false := decide_eq_false fun z => c (decide_eq_true ⟨z.1, z.2.1⟩)
        have q := q _ (Same.refl _)
        rw [e] at q
        exact q
    · exact ⟨_, rfl, w, _, _, _, false, rfl, .own _, t1, k1, false, rfl, iteF q⟩
end
end My

namespace My
open PySem PySem.Spec PyProof.Rows L2 G SX NumText
abbrev s_Point_towards : Stmt := inClass (topS 23) 3
theorem sc_Point_towards : FnScope ["self", "other", "share"] ["self", "other", "share"] (defScope s_Point_towards) := ⟨rfl, rfl, rfl, by decide +kernel, rfl, by decide +kernel, by decide +kernel⟩

abbrev s_Point___add__ : Stmt := inClass (topS 23) 4
theorem sc_Point___add__ : FnScope ["self", "other"] ["self", "other"] (defScope s_Point___add__) := ⟨rfl, rfl, rfl, by decide +kernel, rfl, by decide +kernel, by decide +kernel⟩

abbrev s_Point___sub__ : Stmt := inClass (topS 23) 5
theorem sc_Point___sub__ : FnScope ["self", "other"] ["self", "other"] (defScope s_Point___sub__) := ⟨rfl, rfl, rfl, by decide +kernel, rfl, by decide +kernel, by decide +kernel⟩

/-- a coordinate, or a share -/
structure Lo (n u : Int) : Prop where
  red : Red n u
  num : n.natAbs ≤ 10 ^ 6
  und : u.natAbs ≤ 10 ^ 3
theorem Lo.sn {n u : Int} (h : Lo n u) : Sm n := by have := h.num; exact ⟨by omega, by omega⟩
theorem Lo.su {n u : Int} (h : Lo n u) : Sm u := by have := h.und; exact ⟨by omega, by omega⟩
def twN (n u n' u' s r : Int) : Int := n * (u' * u * r) + (n' * u - n * u') * s * u
def twU (u u' r : Int) : Int := u * (u' * u * r)
def spTw (K : PySem.W.Frag) (C CP B B2 : Addr) : Sp := fun vs H Q E => ∃ v w sh n u m t, vs = [v, w, sh] ∧ PtAt C CP H v n u m t ∧
  ((∃ n' u' m' t' s r, PtAt C CP H w n' u' m' t' ∧ NumAt C H sh s r ∧ Lo n u ∧ Lo m t ∧ Lo n' u' ∧ Lo m' t' ∧ Lo s r ∧
    ∀ z H', Same H H' → PtAt C CP H' z (rNum (twN n u n' u' s r) (twU u u' r)) (rUnd (twN n u n' u' s r) (twU u u' r)) (rNum (twN m t m' t' s r) (twU t t' r)) (rUnd (twN m t m' t' s r) (twU t t' r)) → Q z H') ∨
   (NotR K CP H w ∧ ∀ d H', Same H H' → H' d = some (.xd [("value", w)]) → E (.ref B) (some d) H') ∨
   (TyX K H w (.ref CP) ∧ IsN K C H sh false ∧ ∀ d H', Same H H' → H' d = some (.xd [("value", sh)]) → E (.ref B2) (some d) H'))
def spPBin (C CP : Addr) (f : Op2) : Sp := fun vs H Q _ => ∃ v w n u m t n' u' m' t', vs = [v, w] ∧ PtAt C CP H v n u m t ∧ PtAt C CP H w n' u' m' t' ∧ Lo n u ∧ Lo m t ∧ Lo n' u' ∧ Lo m' t' ∧
  ∀ z H', Same H H' → PtAt C CP H' z (rNum (f.num n u n' u') (f.und n u n' u')) (rUnd (f.num n u n' u') (f.und n u n' u')) (rNum (f.num m t m' t') (f.und m t m' t')) (rUnd (f.num m t m' t') (f.und m t m' t')) → Q z H'
theorem sm_abs {i : Int} (h : i.natAbs ≤ 10 ^ 16) : Sm i := ⟨by omega, by omega⟩
theorem tw_all {n u n' u' s r : Int} (l1 : Lo n u) (l3 : Lo n' u') (l5 : Lo s r) : ∀ R1n R1u R2n R2u, R1n = rNum (fSub.num n' u' n u) (fSub.und n' u' n u) → R1u = rUnd (fSub.num n' u' n u) (fSub.und n' u' n u) → R2n = rNum (fMul.num R1n R1u s r) (fMul.und R1n R1u s r) → R2u = rUnd (fMul.num R1n R1u s r) (fMul.und R1n R1u s r) →
    Red R1n R1u ∧ Red R2n R2u ∧ Sm R1n ∧ Sm R1u ∧ Sm R2n ∧ Sm R2u ∧ rNum (fAdd.num n u R2n R2u) (fAdd.und n u R2n R2u) = rNum (twN n u n' u' s r) (twU u u' r) ∧ rUnd (fAdd.num n u R2n R2u) (fAdd.und n u R2n R2u) = rUnd (twN n u n' u' s r) (twU u u' r) := by
  intro R1n R1u R2n R2u e1 e2 e3 e4
  have hu := l1.red.pos
  have hu' := l3.red.pos
  have hr := l5.red.pos
  have z1 : u' * u ≠ 0 := Int.mul_ne_zero (by omega) (by omega)
  have b1 : (n' * u - n * u').natAbs ≤ 2 * 10 ^ 9 := by
    have := absmul l3.num l1.und
    have := absmul l1.num l3.und
    omega
  have b2 : (u' * u).natAbs ≤ 10 ^ 6 := by
    have := absmul l3.und l1.und
    omega
  have c1 := red_cross (n := n' * u - n * u') z1
  have r1 : Red R1n R1u := by rw [e1, e2]; exact red_of z1
  have k1 : R1n.natAbs ≤ 2 * 10 ^ 9 := by
    have := num_le (n := n' * u - n * u') z1
    rw [e1]
    exact Nat.le_trans this b1
  have k2 : R1u.natAbs ≤ 10 ^ 6 := by
    have := und_le (n := n' * u - n * u') z1
    rw [e2]
    exact Nat.le_trans this b2
  have c1 : R1n * (u' * u) = (n' * u - n * u') * R1u := by rw [e1, e2]; exact c1
  have p1 := r1.pos
  have z2 : R1u * r ≠ 0 := Int.mul_ne_zero (by omega) (by omega)
  have b3 : (R1n * s).natAbs ≤ 2 * 10 ^ 9 * 10 ^ 6 := absmul k1 l5.num
  have b4 : (R1u * r).natAbs ≤ 10 ^ 6 * 10 ^ 3 := absmul k2 l5.und
  have r2 : Red R2n R2u := by rw [e3, e4]; exact red_of z2
  have k3 : R2n.natAbs ≤ 2 * 10 ^ 9 * 10 ^ 6 := by
    have := num_le (n := R1n * s) z2
    rw [e3]
    exact Nat.le_trans this b3
  have k4 : R2u.natAbs ≤ 10 ^ 6 * 10 ^ 3 := by
    have := und_le (n := R1n * s) z2
    rw [e4]
    exact Nat.le_trans this b4
  have c2 : R2n * (R1u * r) = R1n * s * R2u := by rw [e3, e4]; exact red_cross z2
  have p2 := r2.pos
  have x : R2n * (u' * u * r) = (n' * u - n * u') * s * R2u := by
    have y : R1u * (R2n * (u' * u * r)) = R1u * ((n' * u - n * u') * s * R2u) := by grind
    exact Int.eq_of_mul_eq_mul_left (by omega) y
  have w := rat_same (a := n * R2u + R2n * u) (b := u * R2u) (c := twN n u n' u' s r) (d := twU u u' r) (Int.mul_ne_zero (by omega) (by omega)) (Int.mul_ne_zero (by omega) (Int.mul_ne_zero z1 (by omega))) (by unfold twN twU; grind)
  exact ⟨r1, r2, sm_abs (by omega), sm_abs (by omega), sm_abs (by omega), sm_abs (by omega), w.1, w.2⟩
theorem mul_or {C : Addr} {sp : Sp} {E : XK} {H : Hp} {z sh : V} {n u s r : Int} {Q : VK} (hz : RatAt C H z n u) (hs : NumAt C H sh s r) (q : sp [z, sh] H Q E) : rBinK C sp E z sh H Q ∨ rBinT C sp E z sh H Q := by
  obtain ⟨a, d, rfl, h⟩ := hz
  rcases hs with ⟨rfl, _⟩ | ⟨b, e, rfl, g⟩
  · exact .inr ⟨a, d, _, _, rfl, rfl, h, q⟩
  · exact .inl ⟨a, b, _, _, _, _, rfl, rfl, h, g, q⟩
section
variable {P : Program} {w : World} {K : PySem.W.Frag} {mg : Str → Option Value} {base : Heap} {a : Ad}
theorem ok_Point___add__ {fd : FuncData} (F : Fun K "__add__" "Point.__add__" s_Point___add__ a.Point___add__ fd) (T : Txt K mg a)
    {fd_Point___init__ : FuncData} (G_Point___init__ : FnOk P w K mg base (L2.CX P w) 6 a.Point___init__ fd_Point___init__ ["self", "x", "y"] (spPInit K a.Ratio a.Point a.BadPoint)) (b_Point___init__ : Binds K fd_Point___init__ ["self", "x", "y"] [])
    {fd_Ratio___add__ : FuncData} (G_Ratio___add__ : FnOk P w K mg base CX0 5 a.Ratio___add__ fd_Ratio___add__ ["self", "other"] (spBin a.Ratio fAdd)) (b_Ratio___add__ : Binds K fd_Ratio___add__ ["self", "other"] []) :
    FnOk P w K mg base CX0 8 a.Point___add__ fd ["self", "other"] (spPBin a.Ratio a.Point fAdd) := by
  refine F.ok sc_Point___add__ (fun vs H Q E h => ?len) (fun cdv A outer s H vs Q E hr h => ⟨_,
      (pss_cons (ps_if (pt_not (pt_val (pe_callB call_isi (by rfl) T.n_isinstance (by decide +kernel) (pa_cons (pv 1) (pa_cons (pe_glob (v := .ref a.Point) (by rfl) T.g_Point rfl) pa_nil))))) (pss_one ps_never) pss_nil)
      (pss_one (ps_ret (pe_make T.m_Point G_Point___init__ (hr.mono (by omega)) (by rfl) T.g_Point b_Point___init__ .nil passF (pa_cons (pe_op (op_binK T.o_add (fnR G_Ratio___add__ b_Ratio___add__) (hr.mono (by omega)) pass0) (pe_fld (pv 0) rfl) (pe_fld (pv 1) rfl)) (pa_cons (pe_op (op_binK T.o_add (fnR G_Ratio___add__ b_Ratio___add__) (hr.mono (by omega)) pass0) (pe_fld (pv 0) rfl) (pe_fld (pv 1) rfl)) pa_nil)))))), ?body⟩)
  case len => obtain ⟨v, w, n, u, m, t, n', u', m', t', rfl, _⟩ := h; rfl
  case body =>
    obtain ⟨v, w, n, u, m, t, n', u', m', t', rfl, hv, hw, l1, l2, l3, l4, q⟩ := h
    refine ⟨_, rfl, w, _, _, _, true, rfl, .own _, ptTy T hw, T.riP.ks, _, rfl, iteF ?_⟩
    obtain ⟨p1, e1, x1, y1, rfl, h1, ⟨a1, d1, rfl, hx1⟩, ⟨b1, f1, rfl, hy1⟩⟩ := hv
    obtain ⟨p2, e2, x2, y2, rfl, h2, ⟨a2, d2, rfl, hx2⟩, ⟨b2, f2, rfl, hy2⟩⟩ := hw
    refine ⟨_, rfl, _, _, _, _, _, rfl, h1, T.clP, T.nX, rfl, _, rfl, _, _, _, _, _, rfl, h2, T.clP, T.nX, rfl, ?_⟩
    refine ⟨a1, a2, _, _, _, _, rfl, rfl, hx1, hx2, _, _, n, u, n', u', rfl, ⟨a1, d1, rfl, hx1⟩, .inr ⟨a2, d2, rfl, hx2⟩, l1.red, l3.red, l1.sn, l1.su, l3.sn, l3.su, fun z3 H3 S3 r3 => ?_⟩
    refine ⟨_, rfl, _, _, _, _, _, rfl, S3 _ _ h1, T.clP, T.nY, rfl, _, rfl, _, _, _, _, _, rfl, S3 _ _ h2, T.clP, T.nY, rfl, ?_⟩
    refine ⟨b1, b2, _, _, _, _, rfl, rfl, S3 _ _ hy1, S3 _ _ hy2, _, _, m, t, m', t', rfl, ⟨b1, f1, rfl, S3 _ _ hy1⟩, .inr ⟨b2, f2, rfl, S3 _ _ hy2⟩, l2.red, l4.red, l2.sn, l2.su, l4.sn, l4.su, fun z4 H4 S4 r4 => ?_⟩
    intro x dx c8 c9 c10
    exact mk_pt (.inr (r3.same S4)) (.inr r4) c8 c9 c10 fun H5 S5 pt => ⟨rfl, q _ H5 ((S3.trans S4).trans S5) pt⟩
theorem ok_Point___sub__ {fd : FuncData} (F : Fun K "__sub__" "Point.__sub__" s_Point___sub__ a.Point___sub__ fd) (T : Txt K mg a)
    {fd_Point___init__ : FuncData} (G_Point___init__ : FnOk P w K mg base (L2.CX P w) 6 a.Point___init__ fd_Point___init__ ["self", "x", "y"] (spPInit K a.Ratio a.Point a.BadPoint)) (b_Point___init__ : Binds K fd_Point___init__ ["self", "x", "y"] [])
    {fd_Ratio___sub__ : FuncData} (G_Ratio___sub__ : FnOk P w K mg base CX0 5 a.Ratio___sub__ fd_Ratio___sub__ ["self", "other"] (spBin a.Ratio fSub)) (b_Ratio___sub__ : Binds K fd_Ratio___sub__ ["self", "other"] []) :
    FnOk P w K mg base CX0 8 a.Point___sub__ fd ["self", "other"] (spPBin a.Ratio a.Point fSub) := by
  refine F.ok sc_Point___sub__ (fun vs H Q E h => ?len) (fun cdv A outer s H vs Q E hr h => ⟨_,
      (pss_cons (ps_if (pt_not (pt_val (pe_callB call_isi (by rfl) T.n_isinstance (by decide +kernel) (pa_cons (pv 1) (pa_cons (pe_glob (v := .ref a.Point) (by rfl) T.g_Point rfl) pa_nil))))) (pss_one ps_never) pss_nil)
      (pss_one (ps_ret (pe_make T.m_Point G_Point___init__ (hr.mono (by omega)) (by rfl) T.g_Point b_Point___init__ .nil passF (pa_cons (pe_op (op_binK T.o_sub (fnR G_Ratio___sub__ b_Ratio___sub__) (hr.mono (by omega)) pass0) (pe_fld (pv 0) rfl) (pe_fld (pv 1) rfl)) (pa_cons (pe_op (op_binK T.o_sub (fnR G_Ratio___sub__ b_Ratio___sub__) (hr.mono (by omega)) pass0) (pe_fld (pv 0) rfl) (pe_fld (pv 1) rfl)) pa_nil)))))), ?body⟩)
  case len => obtain ⟨v, w, n, u, m, t, n', u', m', t', rfl, _⟩ := h; rfl
  case body =>
    obtain ⟨v, w, n, u, m, t, n', u', m', t', rfl, hv, hw, l1, l2, l3, l4, q⟩ := h
    refine ⟨_, rfl, w, _, _, _, true, rfl, .own _, ptTy T hw, T.riP.ks, _, rfl, iteF ?_⟩
    obtain ⟨p1, e1, x1, y1, rfl, h1, ⟨a1, d1, rfl, hx1⟩, ⟨b1, f1, rfl, hy1⟩⟩ := hv
    obtain ⟨p2, e2, x2, y2, rfl, h2, ⟨a2, d2, rfl, hx2⟩, ⟨b2, f2, rfl, hy2⟩⟩ := hw
    refine ⟨_, rfl, _, _, _, _, _, rfl, h1, T.clP, T.nX, rfl, _, rfl, _, _, _, _, _, rfl, h2, T.clP, T.nX, rfl, ?_⟩
    refine ⟨a1, a2, _, _, _, _, rfl, rfl, hx1, hx2, _, _, n, u, n', u', rfl, ⟨a1, d1, rfl, hx1⟩, .inr ⟨a2, d2, rfl, hx2⟩, l1.red, l3.red, l1.sn, l1.su, l3.sn, l3.su, fun z3 H3 S3 r3 => ?_⟩
    refine ⟨_, rfl, _, _, _, _, _, rfl, S3 _ _ h1, T.clP, T.nY, rfl, _, rfl, _, _, _, _, _, rfl, S3 _ _ h2, T.clP, T.nY, rfl, ?_⟩
    refine ⟨b1, b2, _, _, _, _, rfl, rfl, S3 _ _ hy1, S3 _ _ hy2, _, _, m, t, m', t', rfl, ⟨b1, f1, rfl, S3 _ _ hy1⟩, .inr ⟨b2, f2, rfl, S3 _ _ hy2⟩, l2.red, l4.red, l2.sn, l2.su, l4.sn, l4.su, fun z4 H4 S4 r4 => ?_⟩
    intro x dx c8 c9 c10
    exact mk_pt (.inr (r3.same S4)) (.inr r4) c8 c9 c10 fun H5 S5 pt => ⟨rfl, q _ H5 ((S3.trans S4).trans S5) pt⟩
theorem ok_Point_towards {fd : FuncData} (F : Fun K "towards" "Point.towards" s_Point_towards a.Point_towards fd) (T : Txt K mg a)
    {fd_Point___init__ : FuncData} (G_Point___init__ : FnOk P w K mg base (L2.CX P w) 6 a.Point___init__ fd_Point___init__ ["self", "x", "y"] (spPInit K a.Ratio a.Point a.BadPoint)) (b_Point___init__ : Binds K fd_Point___init__ ["self", "x", "y"] [])
    {fd_Ratio___add__ : FuncData} (G_Ratio___add__ : FnOk P w K mg base CX0 5 a.Ratio___add__ fd_Ratio___add__ ["self", "other"] (spBin a.Ratio fAdd)) (b_Ratio___add__ : Binds K fd_Ratio___add__ ["self", "other"] [])
    {fd_Ratio___mul__ : FuncData} (G_Ratio___mul__ : FnOk P w K mg base CX0 5 a.Ratio___mul__ fd_Ratio___mul__ ["self", "other"] (spBin a.Ratio fMul)) (b_Ratio___mul__ : Binds K fd_Ratio___mul__ ["self", "other"] [])
    {fd_Ratio___sub__ : FuncData} (G_Ratio___sub__ : FnOk P w K mg base CX0 5 a.Ratio___sub__ fd_Ratio___sub__ ["self", "other"] (spBin a.Ratio fSub)) (b_Ratio___sub__ : Binds K fd_Ratio___sub__ ["self", "other"] [])
    {fd_is_number : FuncData} (G_is_number : FnOk P w K mg base CX0 2 a.is_number fd_is_number ["value"] (spIsNum K a.Ratio)) (b_is_number : Binds K fd_is_number ["value"] [])
    {fd_init : FuncData} (G_init : FnOk P w K mg base CX0 1 a.init fd_init ["self", "value"] (spErrInit K)) (b_init : Binds K fd_init ["self", "value"] [])
    {fd_check_point : FuncData} (G_check_point : FnOk P w K mg base (L2.CX P w) 3 a.check_point fd_check_point ["value"] (spChk K a.Point a.BadPoint)) (b_check_point : Binds K fd_check_point ["value"] []) :
    FnOk P w K mg base (L2.CX P w) 8 a.Point_towards fd ["self", "other", "share"] (spTw K a.Ratio a.Point a.BadPoint a.BadNumber) := by
  refine F.okX sc_Point_towards (fun vs H Q E h => ?len) (fun cdv A outer s H vs Q E hr h => ⟨_,
      (pss_cons (ps_expr (pe_call G_check_point (hr.mono (by omega)) (by rfl) T.g_check_point T.k_check_point b_check_point .nil (passes_call (takes_of rfl rfl rfl rfl) fun _ _ _ _ h => h) (pa_cons (pv 1) pa_nil)))
      (pss_cons (ps_if (pt_not (pt_val (pe_call G_is_number (hr.mono (by omega)) (by rfl) T.g_is_number T.k_is_number b_is_number .nil pass0 (pa_cons (pv 2) pa_nil)))) (pss_one (ps_raise rfl (takes_of rfl rfl rfl rfl) (pmk_oex T.c_BadNumber.ox T.i_BadNumber T.tI G_init (hr.mono (by omega)) b_init .nil pass0 (by rfl) T.g_BadNumber (pa_cons (pv 2) pa_nil)))) pss_nil)
      (pss_one (ps_ret (pe_make T.m_Point G_Point___init__ (hr.mono (by omega)) (by rfl) T.g_Point b_Point___init__ .nil passF (pa_cons (pe_op (op_binK T.o_add (fnR G_Ratio___add__ b_Ratio___add__) (hr.mono (by omega)) pass0) (pe_fld (pv 0) rfl) (pe_op (op_or (op_binK T.o_mul (fnR G_Ratio___mul__ b_Ratio___mul__) (hr.mono (by omega)) pass0) (op_binT T.o_mul (fnR G_Ratio___mul__ b_Ratio___mul__) (hr.mono (by omega)) pass0)) (pe_op (op_binK T.o_sub (fnR G_Ratio___sub__ b_Ratio___sub__) (hr.mono (by omega)) pass0) (pe_fld (pv 1) rfl) (pe_fld (pv 0) rfl)) (pv 2))) (pa_cons (pe_op (op_binK T.o_add (fnR G_Ratio___add__ b_Ratio___add__) (hr.mono (by omega)) pass0) (pe_fld (pv 0) rfl) (pe_op (op_or (op_binK T.o_mul (fnR G_Ratio___mul__ b_Ratio___mul__) (hr.mono (by omega)) pass0) (op_binT T.o_mul (fnR G_Ratio___mul__ b_Ratio___mul__) (hr.mono (by omega)) pass0)) (pe_op (op_binK T.o_sub (fnR G_Ratio___sub__ b_Ratio___sub__) (hr.mono (by omega)) pass0) (pe_fld (pv 1) rfl) (pe_fld (pv 0) rfl)) (pv 2))) pa_nil))))))), ?body⟩)
  case len => obtain ⟨v, w, sh, n, u, m, t, rfl, _⟩ := h; rfl
  case body =>
    obtain ⟨v, w, sh, n, u, m, t, rfl, hv, h⟩ := h
    rcases h with ⟨n', u', m', t', s1, r1, hw, hs, l1, l2, l3, l4, l5, q⟩ | ⟨⟨ty, t1, k1⟩, q⟩ | ⟨ty, ⟨t2, b1, b2, b3, t1, k1, k2, k3, e⟩, q⟩
    · refine ⟨_, rfl, w, _, true, rfl, ptTy T hw, T.riP.ks, fun _ => ?_, fun z => by cases z⟩
      obtain ⟨ty, b1, b2, b3, t1, k1, k2, k3, e⟩ := numTy T hs
      refine ⟨_, rfl, sh, ty, b1, b2, b3, rfl, t1, k1, k2, k3, _, rfl, ?_⟩
      rw [e]
      refine iteF ?_
      obtain ⟨p1, e1, x1, y1, rfl, h1, ⟨a1, d1, rfl, hx1⟩, ⟨b1, f1, rfl, hy1⟩⟩ := hv
      obtain ⟨p2, e2, x2, y2, rfl, h2, ⟨a2, d2, rfl, hx2⟩, ⟨b2, f2, rfl, hy2⟩⟩ := hw
      obtain ⟨q1x, q2x, s1x, s2x, s3x, s4x, w1x, w2x⟩ := tw_all l1 l3 l5 _ _ _ _ rfl rfl rfl rfl
      refine ⟨_, rfl, _, _, _, _, _, rfl, h1, T.clP, T.nX, rfl, _, rfl, _, _, _, _, _, rfl, h2, T.clP, T.nX, rfl, _, rfl, _, _, _, _, _, rfl, h1, T.clP, T.nX, rfl, ?_⟩
      refine ⟨a2, a1, _, _, _, _, rfl, rfl, hx2, hx1, _, _, n', u', n, u, rfl, ⟨a2, d2, rfl, hx2⟩, .inr ⟨a1, d1, rfl, hx1⟩, l3.red, l1.red, l3.sn, l3.su, l1.sn, l1.su, fun z3x H3x S3x r3x => ?_⟩
      refine ⟨_, rfl, mul_or r3x (hs.same S3x) ⟨_, _, _, _, s1, r1, rfl, r3x, hs.same S3x, q1x, l5.red, s1x, s2x, l5.sn, l5.su, fun z4x H4x S4x r4x => ?_⟩⟩
      obtain ⟨g4x, i4x, rfl, hz4x⟩ := id r4x
      have Sa := S3x.trans S4x
      refine ⟨a1, g4x, _, _, _, _, rfl, rfl, Sa _ _ hx1, hz4x, _, _, n, u, _, _, rfl, ⟨a1, d1, rfl, Sa _ _ hx1⟩, .inr r4x, l1.red, q2x, l1.sn, l1.su, s3x, s4x, fun z5x H5x S5x r5x => ?_⟩
      rw [w1x, w2x] at r5x
      have Sb := Sa.trans S5x
      obtain ⟨q1y, q2y, s1y, s2y, s3y, s4y, w1y, w2y⟩ := tw_all l2 l4 l5 _ _ _ _ rfl rfl rfl rfl
      refine ⟨_, rfl, _, _, _, _, _, rfl, Sb _ _ h1, T.clP, T.nY, rfl, _, rfl, _, _, _, _, _, rfl, Sb _ _ h2, T.clP, T.nY, rfl, _, rfl, _, _, _, _, _, rfl, Sb _ _ h1, T.clP, T.nY, rfl, ?_⟩
      refine ⟨b2, b1, _, _, _, _, rfl, rfl, Sb _ _ hy2, Sb _ _ hy1, _, _, m', t', m, t, rfl, ⟨b2, f2, rfl, Sb _ _ hy2⟩, .inr ⟨b1, f1, rfl, Sb _ _ hy1⟩, l4.red, l2.red, l4.sn, l4.su, l2.sn, l2.su, fun z3y H3y S3y r3y => ?_⟩
      have hs2 := hs.same (Sb.trans S3y)
      refine ⟨_, rfl, mul_or r3y hs2 ⟨_, _, _, _, s1, r1, rfl, r3y, hs2, q1y, l5.red, s1y, s2y, l5.sn, l5.su, fun z4y H4y S4y r4y => ?_⟩⟩
      obtain ⟨g4y, i4y, rfl, hz4y⟩ := id r4y
      have Sc := (Sb.trans S3y).trans S4y
      refine ⟨b1, g4y, _, _, _, _, rfl, rfl, Sc _ _ hy1, hz4y, _, _, m, t, _, _, rfl, ⟨b1, f1, rfl, Sc _ _ hy1⟩, .inr r4y, l2.red, q2y, l2.sn, l2.su, s3y, s4y, fun z5y H5y S5y r5y => ?_⟩
      rw [w1y, w2y] at r5y
      intro x dx c8 c9 c10
      exact mk_pt (.inr (r5x.same ((S3y.trans S4y).trans S5y))) (.inr r5y) c8 c9 c10 fun H6 S6 pt => ⟨rfl, q _ H6 ((Sc.trans S5y).trans S6) pt⟩
    · exact ⟨_, rfl, w, ty, false, rfl, t1, k1, (fun z => nomatch z), fun _ d H' S e => q d H' S e⟩
    · refine ⟨_, rfl, w, _, true, rfl, ty, T.riP.ks, fun _ => ?_, fun z => by cases z⟩
      refine ⟨_, rfl, sh, t2, b1, b2, b3, rfl, t1, k1, k2, k3, _, rfl, ?_⟩
      rw [e]
      refine iteT ?_
      exact ⟨_, rfl, raise_told T.c_BadNumber fun d H' S e => q d H' S e⟩
end
end My

namespace My
open PySem PySem.Spec PyProof.Rows L2 G SX NumText
abbrev s__law_ratio_text : Stmt := topS 34
theorem sc__law_ratio_text : FnScope ["_law_pair_here"] ["_law_pair_here"] (defScope s__law_ratio_text) := ⟨rfl, rfl, rfl, by decide +kernel, rfl, by decide +kernel, by decide +kernel⟩

abbrev s__law_is_int : Stmt := topS 30
theorem sc__law_is_int : FnScope ["_law_value", "_law_low", "_law_high"] ["_law_value", "_law_low", "_law_high"] (defScope s__law_is_int) := ⟨rfl, rfl, rfl, by decide +kernel, rfl, by decide +kernel, by decide +kernel⟩

abbrev s__law_drawn : Stmt := topS 36
theorem sc__law_drawn : FnScope ["_law_pot_here", "_law_some"] ["_law_pot_here"] (defScope s__law_drawn) := ⟨rfl, rfl, rfl, by decide +kernel, rfl, by decide +kernel, by decide +kernel⟩

abbrev s__law_with : Stmt := topS 37
theorem sc__law_with : FnScope ["_law_one", "_law_other", "_law_many", "_law_above"] ["_law_one", "_law_other", "_law_many"] (defScope s__law_with) := ⟨rfl, rfl, rfl, by decide +kernel, rfl, by decide +kernel, by decide +kernel⟩

abbrev s__law_number : Stmt := topS 38
theorem sc__law_number : FnScope ["_law_pot_here", "_law_pair_here"] ["_law_pot_here", "_law_pair_here"] (defScope s__law_number) := ⟨rfl, rfl, rfl, by decide +kernel, rfl, by decide +kernel, by decide +kernel⟩

abbrev s__law_point : Stmt := topS 39
theorem sc__law_point : FnScope ["_law_pot_here", "_law_dot"] ["_law_pot_here", "_law_dot"] (defScope s__law_point) := ⟨rfl, rfl, rfl, by decide +kernel, rfl, by decide +kernel, by decide +kernel⟩

abbrev s__law_is_at : Stmt := topS 40
theorem sc__law_is_at : FnScope ["_law_made", "_law_dot"] ["_law_made", "_law_dot"] (defScope s__law_is_at) := ⟨rfl, rfl, rfl, by decide +kernel, rfl, by decide +kernel, by decide +kernel⟩

def spLText : Sp := fun vs H Q _ => ∃ v n u, vs = [v] ∧ PairAt H v n u ∧ n.natAbs < 10 ^ 64 ∧ u.natAbs < 10 ^ 64 ∧ Q (.str (S (ratL n u))) H
def spLi (K : PySem.W.Frag) : Sp := fun vs H Q _ => ∃ v t b1 b2 lo hi, vs = [v, .int lo, .int hi] ∧ TyX K H v t ∧ PySem.W.kitOne K t (.type "int") = some b1 ∧ PySem.W.kitOne K t (.type "bool") = some b2 ∧
  (((b1 && !b2) = false ∧ Q (.bl false) H) ∨ ((b1 && !b2) = true ∧ ∃ i, v = .int i ∧ Q (.bl (decide (lo ≤ i) && decide (i ≤ hi))) H))
def spDrawn : Sp := fun vs H Q _ => ∃ (p : Addr) (k : Nat), vs = [.ref p] ∧ PotAt H p k ∧ k ≤ 90000 ∧ ∀ v H' n u, Go p (k + 4) H H' → PairAt H' v n u → Lo n u → Q v H'
/-- a fraction of middling size -/
def Mi (i : Int) : Prop := i.natAbs ≤ 10 ^ 10
def spWith : Sp := fun vs H Q _ => ∃ x y z n u n' u' s r, vs = [x, y, z] ∧ PairAt H x n u ∧ PairAt H y n' u' ∧ PairAt H z s r ∧ u ≠ 0 ∧ u' ≠ 0 ∧ r ≠ 0 ∧ Mi n ∧ Mi u ∧ Mi n' ∧ Mi u' ∧ Mi s ∧ Mi r ∧
  ∀ p H', H p = none → Same H H' → PairAt H' (.ref p) (rNum (n * u' * r + n' * s * u) (u * u' * r)) (rUnd (n * u' * r + n' * s * u) (u * u' * r)) → Q (.ref p) H'
def spNumber (C : Addr) : Sp := fun vs H Q _ => ∃ (p : Addr) (k : Nat) (x : V) (n u : Int), vs = [.ref p, x] ∧ PotAt H p k ∧ k ≤ 95000 ∧ PairAt H x n u ∧ Lo n u ∧ ∀ v H', Go p (k + 1) H H' → NumAt C H' v n u → Q v H'
/-- a pair of pairs -/
def DotAt (H : Hp) (v : V) (n u m t : Int) : Prop := ∃ b x y, v = .ref b ∧ H b = some (.tup [x, y]) ∧ PairAt H x n u ∧ PairAt H y m t
theorem DotAt.same {H H' : Hp} {v : V} {n u m t : Int} (S : Same H H') (h : DotAt H v n u m t) : DotAt H' v n u m t := let ⟨b, x, y, e, h1, h2, h3⟩ := h; ⟨b, x, y, e, S _ _ h1, h2.same S, h3.same S⟩
def spPoint (C CP : Addr) : Sp := fun vs H Q _ => ∃ (p : Addr) (k : Nat) (x : V) (n u m t : Int), vs = [.ref p, x] ∧ PotAt H p k ∧ k ≤ 90000 ∧ DotAt H x n u m t ∧ Lo n u ∧ Lo m t ∧ ∀ v H', Go p (k + 2) H H' → PtAt C CP H' v n u m t → Q v H'
def spIsAt (K : PySem.W.Frag) (C CP : Addr) : Sp := fun vs H Q _ => ∃ v b x y n u m t, vs = [v, .ref b] ∧ PtAt C CP H v n u m t ∧ (H b = some (.tup [x, y]) ∨ H b = some (.lst [x, y])) ∧ PairAt H x n u ∧ PairAt H y m t ∧ (Mid n ∧ Mid u ∧ Mid m ∧ Mid t) ∧ ∀ H', Same H H' → Q (.bl true) H'
theorem cpow12 : CPowW 10 12 := ⟨by decide, by decide, by decide +kernel⟩
theorem NumAt.go {C p : Addr} {k j : Nat} {H H' : Hp} {v : V} {n u : Int} (h : NumAt C H v n u) (pt : PotAt H p k) (g : Go p j H H') : NumAt C H' v n u := h.imp id fun ⟨b, d, e, x⟩ => ⟨b, d, e, g.at x fun z => by
  obtain ⟨_, _, _, f, _⟩ := pt
  rw [z, f] at x
  cases x⟩
theorem sm_mi {i : Int} (h : Mi i) : Sm i := sm_abs (by unfold Mi at h; omega)
section
variable {P : Program} {w : World} {K : PySem.W.Frag} {mg : Str → Option Value} {base : Heap} {a : Ad}
theorem ok__law_ratio_text {fd : FuncData} (F : Fun K "_law_ratio_text" "_law_ratio_text" s__law_ratio_text a._law_ratio_text fd) (T : Txt K mg a) :
    Fn P w K mg base CX0 1 a._law_ratio_text fd ["_law_pair_here"] spLText := by
  refine ok F sc__law_ratio_text (fun vs H Q E h => ?len) (fun cdv A outer s H vs Q E hq hr h => ⟨_,
      (pss_one (ps_ret (pe_ifExp (pt_cmpR op_eq (pe_ix ix_tup (pv 0) pe_int (fun _ _ => rfl)) pe_int (nomark _)) (pe_callTy call_str_int (by rfl) T.n_str (by decide +kernel) (pa_cons (pe_ix ix_tup (pv 0) pe_int (fun _ _ => rfl)) pa_nil)) (pe_op op_add_str (pe_op op_add_str (pe_callTy call_str_int (by rfl) T.n_str (by decide +kernel) (pa_cons (pe_ix ix_tup (pv 0) pe_int (fun _ _ => rfl)) pa_nil)) pe_str) (pe_callTy call_str_int (by rfl) T.n_str (by decide +kernel) (pa_cons (pe_ix ix_tup (pv 0) pe_int (fun _ _ => rfl)) pa_nil)))))), ?body⟩)
  case len => obtain ⟨v, n, u, rfl, _⟩ := h; rfl
  case body =>
    obtain ⟨v, n, u, rfl, ⟨p, rfl, hp⟩, n1, u1, q⟩ := h
    have l1 := intL_short n1
    have l2 := intL_short u1
    refine ⟨_, rfl, _, _, _, _, rfl, rfl, SqT.of hp, rfl, rfl, _, rfl, ite2 (fun c => ?_) (fun c => ?_)⟩
    · have z := of_decide_eq_true c
      injection z with z
      rw [z, ratL_one] at q
      refine ⟨_, rfl, _, _, _, _, rfl, rfl, SqT.of hp, rfl, n, rfl, log64 n1, ?_⟩
      rw [int_L]
      exact q
    · rw [ratL_two fun z => c (decide_eq_true (by rw [z]))] at q
      refine ⟨_, rfl, _, _, _, _, rfl, rfl, SqT.of hp, rfl, n, rfl, log64 n1, ?_⟩
      rw [int_L]
      refine ⟨_, _, rfl, rfl, by rw [S_len, stroke_S, S_len, sizeLine_eq, List.length_singleton]; omega, ?_⟩
      refine ⟨_, rfl, _, _, _, _, rfl, rfl, SqT.of hp, rfl, u, rfl, log64 u1, ?_⟩
      rw [int_L, stroke_S, S_cat]
      refine ⟨_, _, rfl, rfl, by rw [S_len, S_len, sizeLine_eq, List.length_append, List.length_singleton]; omega, ?_⟩
      rw [S_cat, List.append_assoc]
      exact q
theorem ok__law_is_int {fd : FuncData} (F : Fun K "_law_is_int" "_law_is_int" s__law_is_int a._law_is_int fd) (T : Txt K mg a) :
    Fn P w K mg base CX0 1 a._law_is_int fd ["_law_value", "_law_low", "_law_high"] (spLi K) := by
  refine ok F sc__law_is_int (fun vs H Q E h => ?len) (fun cdv A outer s H vs Q E hq hr h => ⟨_,
      (pss_one (ps_ret (pe_and (pe_callB call_isi (by rfl) T.n_isinstance (by decide +kernel) (pa_cons (pv 0) (pa_cons (pe_bltn (v := .ty "int") (u := .type "int") (by rfl) T.n_int (by decide +kernel) rfl) pa_nil))) (pe_and (pe_not (pe_callB call_isi (by rfl) T.n_isinstance (by decide +kernel) (pa_cons (pv 0) (pa_cons (pe_bltn (v := .ty "bool") (u := .type "bool") (by rfl) T.n_bool (by decide +kernel) rfl) pa_nil)))) (pe_one (pe_chain op_le op_le (pv 1) (pv 0) (pv 2))))))), ?body⟩)
  case len => obtain ⟨v, t, b1, b2, lo, hi, rfl, _⟩ := h; rfl
  case body =>
    obtain ⟨v, t, b1, b2, lo, hi, rfl, ty, k1, k2, q⟩ := h
    refine ⟨_, rfl, _, _, _, _, b1, rfl, .ty _, ty, k1, b1, rfl, ?_⟩
    cases b1
    · rcases q with ⟨_, q⟩ | ⟨z, _⟩
      · exact iteF q
      · cases z
    · refine iteT ⟨_, rfl, _, _, _, _, b2, rfl, .ty _, ty, k2, b2, rfl, !b2, rfl, ?_⟩
      cases b2
      · rcases q with ⟨z, _⟩ | ⟨_, i, rfl, q⟩
        · cases z
        · refine iteT ⟨_, rfl, _, rfl, _, _, rfl, rfl, _, rfl, ite2 (fun c => ?_) (fun c => ?_)⟩
          · refine ⟨_, rfl, _, _, rfl, rfl, ?_⟩
            rw [c, Bool.true_and] at q
            exact q
          · rw [Bool.eq_false_iff.mpr c, Bool.false_and] at q
            exact q
      · rcases q with ⟨_, q⟩ | ⟨z, _⟩
        · exact iteF q
        · cases z
theorem ok__law_drawn {fd : FuncData} (F : Fun K "_law_drawn" "_law_drawn" s__law_drawn a._law_drawn fd) (T : Txt K mg a)
    {fd__law_pair : FuncData} (G__law_pair : Fn P w K mg base CX0 2 a._law_pair fd__law_pair ["_law_above", "_law_under"] spPair) (b__law_pair : Binds K fd__law_pair ["_law_above", "_law_under"] [])
    {fd__law_of : FuncData} (G__law_of : Fn P w K mg base CX0 2 a._law_of fd__law_of ["_law_pot_here", "_law_some"] spOf) (b__law_of : Binds K fd__law_of ["_law_pot_here", "_law_some"] [])
    {fd__law_take : FuncData} (G__law_take : Fn P w K mg base CX0 1 a._law_take fd__law_take ["_law_pot_here", "_law_upto"] spTake) (b__law_take : Binds K fd__law_take ["_law_pot_here", "_law_upto"] []) :
    Fn P w K mg base CX0 3 a._law_drawn fd ["_law_pot_here"] spDrawn := by
  refine ok F sc__law_drawn (fun vs H Q E h => ?len) (fun cdv A outer s H vs Q E hq hr h => ⟨_,
      (pss_cons (ps_set (i := 1) sc__law_drawn.nd rfl (Or.inl rfl) (pe_lstS (pa_cons pe_int (pa_cons pe_int (pa_cons (pe_un un_neg pe_int) (pa_cons pe_int (pa_cons (pe_un un_neg pe_int) (pa_cons pe_int (pa_cons pe_int (pa_cons (pe_un un_neg pe_int) (pa_cons (pe_op op_sub (pe_fn G__law_take hq (hr.mono (by omega)) (by rfl) T.g__law_take T.k__law_take b__law_take .nil pass0 (pa_cons (pv 0) (pa_cons pe_int pa_nil))) pe_int) pa_nil)))))))))))
      (pss_one (ps_ret (pe_fn G__law_pair hq (hr.mono (by omega)) (by rfl) T.g__law_pair T.k__law_pair b__law_pair .nil pass0 (pa_cons (pe_fn G__law_of hq (hr.mono (by omega)) (by rfl) T.g__law_of T.k__law_of b__law_of .nil pass0 (pa_cons (pv 0) (pa_cons (pv 1) pa_nil))) (pa_cons (pe_fn G__law_of hq (hr.mono (by omega)) (by rfl) T.g__law_of T.k__law_of b__law_of .nil pass0 (pa_cons (pv 0) (pa_cons (pe_lstS (pa_cons pe_int (pa_cons pe_int (pa_cons pe_int (pa_cons pe_int (pa_cons pe_int (pa_cons pe_int (pa_cons (pe_op op_add pe_int (pe_fn G__law_take hq (hr.mono (by omega)) (by rfl) T.g__law_take T.k__law_take b__law_take .nil pass0 (pa_cons (pv 0) (pa_cons pe_int pa_nil)))) pa_nil)))))))) pa_nil))) pa_nil)))))), ?body⟩)
  case len => obtain ⟨p, k, rfl, _⟩ := h; rfl
  case body =>
    obtain ⟨p, k, rfl, pot, hk, q⟩ := h
    refine ⟨_, rfl, _, rfl, _, rfl, _, rfl, p, 400, k, rfl, pot, by omega, by decide, by decide, fun d1 H1 a1 b1 g1 => ?_⟩
    refine ⟨_, _, rfl, rfl, (by show 9 ≤ sizeLine; decide), fun l hl sl => ?_⟩
    have S1 : ∀ o, Same H1 (upd H1 l o) := fun o => same_new hl
    have nl : l ≠ p := fun z => g1.pot.has (by rw [← z]; exact hl)
    refine ⟨_, rfl, _, rfl, p, l, k + 1, _, rfl, nl, g1.pot.same (S1 _), by omega, upd_same, (by simp), (by show 9 ≤ 10 ^ 6; decide), fun x H3 hx g3 => ?_⟩
    have g13 : Go p (k + 2) H H3 := g1.trans (Go.of (S1 _) g3)
    obtain ⟨i, rfl, i0, i1⟩ : ∃ i : Int, x = .int i ∧ -(10 ^ 6) ≤ i ∧ i ≤ 10 ^ 6 := by
      simp only [List.mem_cons, List.not_mem_nil, or_false] at hx
      rcases hx with rfl | rfl | rfl | rfl | rfl | rfl | rfl | rfl | rfl <;> exact ⟨_, rfl, by omega, by omega⟩
    refine ⟨_, rfl, _, rfl, p, 60, k + 2, rfl, g13.pot, by omega, by decide, by decide, fun d3 H4 a3 b3 g4 => ?_⟩
    refine ⟨_, _, rfl, rfl, (by show 7 ≤ sizeLine; decide), fun l2 hl2 sl2 => ?_⟩
    have g14 : Go p (k + 3) H H4 := g13.trans g4
    have S4 : ∀ o, Same H4 (upd H4 l2 o) := fun o => same_new hl2
    have nl2 : l2 ≠ p := fun z => g14.pot.has (by rw [← z]; exact hl2)
    refine ⟨p, l2, k + 3, _, rfl, nl2, g14.pot.same (S4 _), by omega, upd_same, (by simp), (by show 7 ≤ 10 ^ 6; decide), fun y H5 hy g5 => ?_⟩
    have g15 : Go p (k + 4) H H5 := g14.trans (Go.of (S4 _) g5)
    obtain ⟨j, rfl, j0, j1⟩ : ∃ j : Int, y = .int j ∧ 1 ≤ j ∧ j ≤ 10 ^ 3 := by
      simp only [List.mem_cons, List.not_mem_nil, or_false] at hy
      rcases hy with rfl | rfl | rfl | rfl | rfl | rfl | rfl <;> exact ⟨_, rfl, by omega, by omega⟩
    have j2 : j ≠ 0 := by omega
    refine ⟨i, j, rfl, j2, Nat.lt_of_lt_of_le (m := 2 ^ 64) (by omega) (Nat.pow_le_pow_right (by decide) (by decide)), fun p6 H6 hp6 S6 pr => ?_⟩
    have n1 := num_le (n := i) j2
    have n2 := und_le (n := i) j2
    exact q (.ref p6) H6 _ _ ⟨g15.keep.trans (mask_mono S6), g15.pot.same S6⟩ pr ⟨red_of j2, by omega, by omega⟩
theorem ok__law_with {fd : FuncData} (F : Fun K "_law_with" "_law_with" s__law_with a._law_with fd) (T : Txt K mg a)
    {fd__law_pair : FuncData} (G__law_pair : Fn P w K mg base CX0 2 a._law_pair fd__law_pair ["_law_above", "_law_under"] spPair) (b__law_pair : Binds K fd__law_pair ["_law_above", "_law_under"] []) :
    Fn P w K mg base CX0 3 a._law_with fd ["_law_one", "_law_other", "_law_many"] spWith := by
  refine ok F sc__law_with (fun vs H Q E h => ?len) (fun cdv A outer s H vs Q E hq hr h => ⟨_,
      (pss_cons (ps_set (i := 3) sc__law_with.nd rfl (Or.inl rfl) (pe_op op_add (pe_op op_mul (pe_op op_mul (pe_ix ix_tup (pv 0) pe_int (fun _ _ => rfl)) (pe_ix ix_tup (pv 1) pe_int (fun _ _ => rfl))) (pe_ix ix_tup (pv 2) pe_int (fun _ _ => rfl))) (pe_op op_mul (pe_op op_mul (pe_ix ix_tup (pv 1) pe_int (fun _ _ => rfl)) (pe_ix ix_tup (pv 2) pe_int (fun _ _ => rfl))) (pe_ix ix_tup (pv 0) pe_int (fun _ _ => rfl)))))
      (pss_one (ps_ret (pe_fn G__law_pair hq (hr.mono (by omega)) (by rfl) T.g__law_pair T.k__law_pair b__law_pair .nil pass0 (pa_cons (pv 3) (pa_cons (pe_op op_mul (pe_op op_mul (pe_ix ix_tup (pv 0) pe_int (fun _ _ => rfl)) (pe_ix ix_tup (pv 1) pe_int (fun _ _ => rfl))) (pe_ix ix_tup (pv 2) pe_int (fun _ _ => rfl))) pa_nil)))))), ?body⟩)
  case len => obtain ⟨x, y, z, n, u, n', u', s, r, rfl, _⟩ := h; rfl
  case body =>
    obtain ⟨x, y, z, n, u, n', u', s, r, rfl, ⟨p1, rfl, h1⟩, ⟨p2, rfl, h2⟩, ⟨p3, rfl, h3⟩, u0, u0', r0, bn, bu, bn', bu', bs, br, q⟩ := h
    refine ⟨_, rfl, _, _, _, _, rfl, rfl, SqT.of h1, rfl, _, rfl, _, _, _, _, rfl, rfl, SqT.of h2, rfl, _, _, rfl, rfl, .inl (sm_mi bn), _, rfl, _, _, _, _, rfl, rfl, SqT.of h3, rfl, _, _, rfl, rfl, .inr (sm_mi br), ?_⟩
    refine ⟨_, rfl, _, _, _, _, rfl, rfl, SqT.of h2, rfl, _, rfl, _, _, _, _, rfl, rfl, SqT.of h3, rfl, _, _, rfl, rfl, .inl (sm_mi bn'), _, rfl, _, _, _, _, rfl, rfl, SqT.of h1, rfl, _, _, rfl, rfl, .inr (sm_mi bu), _, _, rfl, rfl, ?_⟩
    refine ⟨_, rfl, _, rfl, _, _, _, _, rfl, rfl, SqT.of h1, rfl, _, rfl, _, _, _, _, rfl, rfl, SqT.of h2, rfl, _, _, rfl, rfl, .inl (sm_mi bu), _, rfl, _, _, _, _, rfl, rfl, SqT.of h3, rfl, _, _, rfl, rfl, .inr (sm_mi br), ?_⟩
    exact ⟨_, _, rfl, Int.mul_ne_zero (Int.mul_ne_zero u0 u0') r0, Nat.lt_of_le_of_lt (absmul (absmul bu bu') br) (by decide +kernel), fun p' H' np S pr => q p' H' np S pr⟩
theorem ok__law_number {fd : FuncData} (F : Fun K "_law_number" "_law_number" s__law_number a._law_number fd) (T : Txt K mg a)
    {fd__law_take : FuncData} (G__law_take : Fn P w K mg base CX0 1 a._law_take fd__law_take ["_law_pot_here", "_law_upto"] spTake) (b__law_take : Binds K fd__law_take ["_law_pot_here", "_law_upto"] [])
    {fd_Ratio___init__ : FuncData} (G_Ratio___init__ : FnOk P w K mg base CX0 2 a.Ratio___init__ fd_Ratio___init__ ["self", "number", "under"] (spInit K a.Ratio)) (b_Ratio___init__ : Binds K fd_Ratio___init__ ["self", "number", "under"] [])
    {ds_Ratio___init__ : List Value} (d_Ratio___init__ : Vals [.int 1] ds_Ratio___init__ ∧ Binds K fd_Ratio___init__ ["self", "number", "under"] ds_Ratio___init__) :
    Fn P w K mg base CX0 4 a._law_number fd ["_law_pot_here", "_law_pair_here"] (spNumber a.Ratio) := by
  refine ok F sc__law_number (fun vs H Q E h => ?len) (fun cdv A outer s H vs Q E hq hr h => ⟨_,
      (pss_one (ps_ret (pe_ifExp (PW.pt (pw_and (pt_cmpR op_eq (pe_ix ix_tup (pv 1) pe_int (fun _ _ => rfl)) pe_int (nomark _)) (pw_and1 (pt_cmpR op_eq (pe_fn G__law_take hq (hr.mono (by omega)) (by rfl) T.g__law_take T.k__law_take b__law_take .nil pass0 (pa_cons (pv 0) (pa_cons pe_int pa_nil))) pe_int (nomark _))))) (pe_ix ix_tup (pv 1) pe_int (fun _ _ => rfl)) (pe_make T.m_Ratio G_Ratio___init__ (hr.mono (by omega)) (by rfl) T.g_Ratio b_Ratio___init__ .nil pass0 (pa_cons (pe_ix ix_tup (pv 1) pe_int (fun _ _ => rfl)) (pa_cons (pe_ix ix_tup (pv 1) pe_int (fun _ _ => rfl)) pa_nil)))))), ?body⟩)
  case len => obtain ⟨p, k, x, n, u, rfl, _⟩ := h; rfl
  case body =>
    obtain ⟨p, k, x, n, u, rfl, pot, hk, ⟨b, rfl, hb⟩, lo, q⟩ := h
    have mk : ∀ H1, Go p (k + 1) H H1 → ∀ x dx, H1 x = none → H1 dx = none → dx ≠ x → spInit K a.Ratio [.ref x, .int n, .int u] (upd (upd H1 dx (.own x)) x (.ins a.Ratio dx [])) (fun v H2 => v = .non ∧ Q (.ref x) H2) E0 := fun H1 g1 x dx c1 c2 c3 => by
      refine mk_at (by have := lo.red.pos; omega) (Nat.lt_of_le_of_lt lo.und (by decide +kernel)) c1 c2 c3 fun H2 S2 r2 => ⟨rfl, ?_⟩
      rw [lo.red.same.1, lo.red.same.2] at r2
      exact q _ H2 ⟨g1.keep.trans (mask_mono S2), g1.pot.same S2⟩ (.inr r2)
    refine ⟨_, rfl, _, _, _, _, rfl, rfl, SqT.of hb, rfl, rfl, _, rfl, ite2 (fun c => ?_) (fun c => ?_)⟩
    · have e : u = 1 := by
        have z := of_decide_eq_true c
        injection z
      refine ⟨_, rfl, p, 2, k, rfl, pot, by omega, by decide, by decide, fun d1 H1 a1 b1 g1 => ⟨rfl, _, rfl, ite2 (fun c2 => ?_) (fun c2 => ?_)⟩⟩
      · have hb1 := g1.at hb (fun z => by obtain ⟨_, _, _, f, _⟩ := pot; rw [z, f] at hb; cases hb)
        refine ⟨_, rfl, _, _, _, _, rfl, rfl, SqT.of hb1, rfl, ?_⟩
        exact q _ H1 g1 (.inl ⟨rfl, e⟩)
      · have hb1 := g1.at hb (fun z => by obtain ⟨_, _, _, f, _⟩ := pot; rw [z, f] at hb; cases hb)
        refine ⟨_, rfl, _, _, _, _, rfl, rfl, SqT.of hb1, rfl, _, rfl, _, _, _, _, rfl, rfl, SqT.of hb1, rfl, ?_⟩
        exact mk H1 g1
    · refine ⟨_, rfl, _, _, _, _, rfl, rfl, SqT.of hb, rfl, _, rfl, _, _, _, _, rfl, rfl, SqT.of hb, rfl, ?_⟩
      exact mk H ⟨Same.refl _, pot.mono (by omega)⟩
theorem ok__law_point {fd : FuncData} (F : Fun K "_law_point" "_law_point" s__law_point a._law_point fd) (T : Txt K mg a)
    {fd_Point___init__ : FuncData} (G_Point___init__ : FnOk P w K mg base (L2.CX P w) 6 a.Point___init__ fd_Point___init__ ["self", "x", "y"] (spPInit K a.Ratio a.Point a.BadPoint)) (b_Point___init__ : Binds K fd_Point___init__ ["self", "x", "y"] [])
    {fd__law_number : FuncData} (G__law_number : Fn P w K mg base CX0 4 a._law_number fd__law_number ["_law_pot_here", "_law_pair_here"] (spNumber a.Ratio)) (b__law_number : Binds K fd__law_number ["_law_pot_here", "_law_pair_here"] []) :
    Fn P w K mg base CX0 8 a._law_point fd ["_law_pot_here", "_law_dot"] (spPoint a.Ratio a.Point) := by
  refine ok F sc__law_point (fun vs H Q E h => ?len) (fun cdv A outer s H vs Q E hq hr h => ⟨_,
      (pss_one (ps_ret (pe_make T.m_Point G_Point___init__ (hr.mono (by omega)) (by rfl) T.g_Point b_Point___init__ .nil passF (pa_cons (pe_fn G__law_number hq (hr.mono (by omega)) (by rfl) T.g__law_number T.k__law_number b__law_number .nil pass0 (pa_cons (pv 0) (pa_cons (pe_ix ix_tup (pv 1) pe_int (fun _ _ => rfl)) pa_nil))) (pa_cons (pe_fn G__law_number hq (hr.mono (by omega)) (by rfl) T.g__law_number T.k__law_number b__law_number .nil pass0 (pa_cons (pv 0) (pa_cons (pe_ix ix_tup (pv 1) pe_int (fun _ _ => rfl)) pa_nil))) pa_nil))))), ?body⟩)
  case len => obtain ⟨p, k, x, n, u, m, t, rfl, _⟩ := h; rfl
  case body =>
    obtain ⟨p, k, x, n, u, m, t, rfl, pot, hk, ⟨b, x1, y1, rfl, hb, px, py⟩, l1, l2, q⟩ := h
    have np : ∀ {H1 : Hp} {c : Addr} {xs : List V}, PotAt H1 p k → H1 c = some (.tup xs) → c ≠ p := fun {H1 c xs} pt h z => by
      obtain ⟨_, _, _, f, _⟩ := pt
      rw [z, f] at h
      cases h
    refine ⟨_, rfl, _, rfl, _, _, _, _, rfl, rfl, SqT.of hb, rfl, p, k, x1, n, u, rfl, pot, by omega, px, l1, fun v H1 g1 hv => ?_⟩
    have hb1 := g1.at hb (np pot hb)
    have py1 : PairAt H1 y1 m t := by
      obtain ⟨c, e, h⟩ := py
      exact ⟨c, e, g1.at h (np pot h)⟩
    refine ⟨_, rfl, _, rfl, _, _, _, _, rfl, rfl, SqT.of hb1, rfl, p, k + 1, y1, m, t, rfl, g1.pot, by omega, py1, l2, fun w H2 g2 hw => ?_⟩
    intro x dx c1 c2 c3
    refine mk_pt (hv.go g1.pot g2) hw c1 c2 c3 fun H3 S3 pt => ⟨rfl, ?_⟩
    have g := g1.trans g2
    exact q _ H3 ⟨g.keep.trans (mask_mono S3), g.pot.same S3⟩ pt
theorem ok__law_is_at {fd : FuncData} (F : Fun K "_law_is_at" "_law_is_at" s__law_is_at a._law_is_at fd) (T : Txt K mg a)
    {fd__law_pair_of : FuncData} (G__law_pair_of : Fn P w K mg base CX0 1 a._law_pair_of fd__law_pair_of ["_law_made"] (spPo a.Ratio)) (b__law_pair_of : Binds K fd__law_pair_of ["_law_made"] []) :
    Fn P w K mg base CX0 3 a._law_is_at fd ["_law_made", "_law_dot"] (spIsAt K a.Ratio a.Point) := by
  refine ok F sc__law_is_at (fun vs H Q E h => ?len) (fun cdv A outer s H vs Q E hq hr h => ⟨_,
      (pss_cons (ps_if (PW.pt (pw_or (pt_not (pt_val (pe_callB call_isi (by rfl) T.n_isinstance (by decide +kernel) (pa_cons (pv 0) (pa_cons (pe_glob (v := .ref a.Point) (by rfl) T.g_Point rfl) pa_nil))))) (pw_or (pt_not (pt_val (pe_callB call_isi (by rfl) T.n_isinstance (by decide +kernel) (pa_cons (pe_fld (pv 0) rfl) (pa_cons (pe_glob (v := .ref a.Ratio) (by rfl) T.g_Ratio rfl) pa_nil))))) (pw_or1 (pt_not (pt_val (pe_callB call_isi (by rfl) T.n_isinstance (by decide +kernel) (pa_cons (pe_fld (pv 0) rfl) (pa_cons (pe_glob (v := .ref a.Ratio) (by rfl) T.g_Ratio rfl) pa_nil))))))))) (pss_one (ps_ret pe_bl)) pss_nil)
      (pss_one (ps_ret (pe_cmpR op_eq (pe_callB (call_reprF hq hr.units) (by rfl) T.n_repr (by decide +kernel) (pa_cons (pe_lstS (pa_cons (pe_fn G__law_pair_of hq (hr.mono (by omega)) (by rfl) T.g__law_pair_of T.k__law_pair_of b__law_pair_of .nil pass0 (pa_cons (pe_fld (pv 0) rfl) pa_nil)) (pa_cons (pe_fn G__law_pair_of hq (hr.mono (by omega)) (by rfl) T.g__law_pair_of T.k__law_pair_of b__law_pair_of .nil pass0 (pa_cons (pe_fld (pv 0) rfl) pa_nil)) pa_nil))) pa_nil)) (pe_callB (call_reprF hq hr.units) (by rfl) T.n_repr (by decide +kernel) (pa_cons (pe_callTy call_list_of (by rfl) T.n_list (by decide +kernel) (pa_cons (pv 1) pa_nil)) pa_nil)) (nomark _))))), ?body⟩)
  case len => obtain ⟨v, b, x, y, n, u, m, t, rfl, _⟩ := h; rfl
  case body =>
    obtain ⟨v, b, x, y, n, u, m, t, rfl, pv, hb, ⟨p1, rfl, h1⟩, ⟨p2, rfl, h2⟩, ⟨m1, m2, m3, m4⟩, q⟩ := h
    refine ⟨_, rfl, _, _, _, _, true, rfl, .own _, ptTy T pv, T.riP.ks, true, rfl, iteF ?_⟩
    obtain ⟨z1, e1, x1, y1, rfl, hz, ⟨a1, d1, rfl, hx1⟩, ⟨b1, f1, rfl, hy1⟩⟩ := pv
    have rx : RatAt a.Ratio H (.ref a1) n u := ⟨a1, d1, rfl, hx1⟩
    have ry : RatAt a.Ratio H (.ref b1) m t := ⟨b1, f1, rfl, hy1⟩
    refine ⟨_, rfl, _, _, _, _, _, rfl, hz, T.clP, T.nX, rfl, _, _, _, _, true, rfl, .own _, ratTy T rx, T.ri.ks, true, rfl, iteF ?_⟩
    refine ⟨_, rfl, _, _, _, _, _, rfl, hz, T.clP, T.nY, rfl, _, _, _, _, true, rfl, .own _, ratTy T ry, T.ri.ks, true, rfl, iteF ?_⟩
    refine ⟨_, rfl, _, _, _, _, _, rfl, hz, T.clP, T.nX, rfl, _, n, u, rfl, rx, fun p3 H3 np3 S3 pa3 => ?_⟩
    refine ⟨_, rfl, _, _, _, _, _, rfl, S3 _ _ hz, T.clP, T.nY, rfl, _, m, t, rfl, ry.same S3, fun p4 H4 np4 S4 pa4 => ?_⟩
    obtain ⟨_, e3, hp3⟩ := pa3.same S4
    cases e3
    obtain ⟨_, e4, hp4⟩ := pa4
    cases e4
    refine ⟨(by show 2 ≤ sizeLine; decide), fun l5 f5 s5 => ?_⟩
    have S5 := same_new (o := .lst [.ref p3, .ref p4]) f5
    have Sa := (S3.trans S4).trans S5
    refine ⟨l5, .list [pairD n u, pairD m t], rfl, .lst upd_same (.cons (.tup (S5 _ _ hp3) (.cons (.int _) (.cons (.int _) .nil))) (.cons (.tup (S5 _ _ hp4) (.cons (.int _) (.cons (.int _) .nil))) .nil)), pairs_gd m1 m2 m3 m4, rfl, ?_⟩
    refine ⟨_, rfl, b, [.ref p1, .ref p2], rfl, ?_, fun l6 f6 => ?_⟩
    · rcases hb with hb | hb
      · exact .inr (SqT.of (Sa _ _ hb))
      · exact .inl (SqL.of (Sa _ _ hb))
    have S6 := same_new (o := .lst [.ref p1, .ref p2]) f6
    have Sb := Sa.trans S6
    refine ⟨l6, .list [pairD n u, pairD m t], rfl, .lst upd_same (.cons (.tup (Sb _ _ h1) (.cons (.int _) (.cons (.int _) .nil))) (.cons (.tup (Sb _ _ h2) (.cons (.int _) (.cons (.int _) .nil))) .nil)), pairs_gd m1 m2 m3 m4, rfl, rfl, ?_⟩
    rw [decide_eq_true rfl]
    exact q _ Sb
end
end My

namespace My
open PySem PySem.Spec PyProof.Rows L2 G LamX NdefX
abbrev s__law_told : Stmt := topS 29
theorem sc__law_told : FnScope ["_law_ask", "_law_caught", "_law_back", "_law_error"] ["_law_ask"] (defScope s__law_told) := ⟨rfl, rfl, rfl, by decide +kernel, rfl, by decide +kernel, by decide +kernel⟩

/-- what the law's asking makes of the lambda's reading: the error, or what came back -/
def TTold (K : PySem.W.Frag) (CS : Addr) : (XK → Hp → VK → Prop) → Hp → VK → Prop := fun tl H Q => ∀ H1, Same H H1 → ∀ (E' : XK) (Q' : VK),
  (∀ C d H', PySem.W.exmOne K (.ref C) (.ref CS) = some true → (∀ e, H' e = none → ∀ T, upd H' e (exc e C d) T = none → Q (.ref T) (upd (upd H' e (exc e C d)) T (.tup [.ref e, .non]))) → E' (.ref C) d H') →
  (∀ v H', (∀ T, H' T = none → Q (.ref T) (upd H' T (.tup [.non, v]))) → Q' v H') → tl E' H1 Q'
def spTold (K : PySem.W.Frag) (CS : Addr) : (XK → Hp → VK → Prop) → Sp := fun tl vs H Q _ => ∃ f, vs = [.ref f] ∧ TTold K CS tl H Q
/-- the lambda raises the class B, its error keeps v -/
def Raises (B : Addr) (tl : XK → Hp → VK → Prop) (H : Hp) (v : Hp → V → Prop) : Prop := ∀ H1, Same H H1 → ∀ (E' : XK) (Q' : VK), (∀ dd wv H', Same H1 H' → H' dd = some (.xd [("value", wv)]) → v H' wv → E' (.ref B) (some dd) H') → tl E' H1 Q'
section
variable {P : Program} {w : World} {K : PySem.W.Frag} {mg : Str → Option Value} {base : Heap} {a : Ad}
theorem ok_told {fd : FuncData} (F : Fun K "_law_told" "_law_told" s__law_told a._law_told fd) (T : Txt K mg a) : FnC P w K mg base CX0 1 a._law_told fd ["_law_ask"] (spTold K a.AboutError) := by
  obtain ⟨_, _, _, _, _, _, cdv, _, _, rfl, lk, hcd⟩ := F.ex
  refine fnC_of (d := 0) lk hcd sc__law_told (fun tl vs H Q E h => ?_) (fun A outer s H vs Q E f F fr ws k tl hq hr hh hf hc C nf L h => ?_)
  · obtain ⟨f, rfl, _⟩ := h
    rfl
  · suffices z : ∃ t, PSs (cxOf CX0 P w K mg base ["_law_ask", "_law_caught", "_law_back", "_law_error"] "_law_told" (defScope s__law_told) a._law_told cdv A outer s H E).nox (defBody s__law_told) t ∧ t { nx := fun _ H' => Q .non H', rt := Q } (L2.start ["_law_ask", "_law_caught", "_law_back", "_law_error"] vs) H by
      obtain ⟨t, z1, z2⟩ := z
      exact ⟨t, z1.nox, z2⟩
    obtain ⟨f', rfl, h⟩ := h
    obtain rfl : f' = f := by simpa using hh
    refine ⟨_, pss_cons (ps_asg (pe_tup (pa_cons pe_non (pa_cons pe_non pa_nil))) (pg_tup rfl (pgs_cons (pg_name (i := 1) sc__law_told.nd rfl (Or.inl rfl)) (pgs_cons (pg_name (i := 2) sc__law_told.nd rfl (Or.inl rfl)) pgs_nil))))
      (pss_cons (ps_try_asT (i := 3) (c := .ref a.AboutError) rfl rfl rfl sc__law_told.nd rfl rfl ⟨rfl, by decide, .inl T.g_AboutError⟩
        (fun W pn xe tk _ => pss_one (ps_set (i := 2) sc__law_told.nd rfl (.inl rfl) (pe_callL (i := 0) tk hr C nf rfl L rfl (.inl rfl))))
        (fun e oe cls d pn _ _ => pss_one (ps_set (i := 1) sc__law_told.nd rfl (.inl rfl) (pv 3))))
      (pss_one (ps_ret (pe_tup (pa_cons (pv 1) (pa_cons (pv 2) pa_nil)))))), ?_⟩
    refine ⟨(by show 2 ≤ sizeLine; decide), fun t1 h1 => ⟨t1, _, rfl, SqT.of upd_same, rfl, ?_⟩⟩
    refine ⟨_, _, rfl, _, _, rfl, rfl, rfl, same_new h1 _ _ hf, same_new h1 _ _ hc, ?_⟩
    refine h _ (same_new h1) _ _ (fun C d H' x q => ⟨x, C, rfl, fun e he => ?_⟩) (fun v H' q => ?_)
    · refine ⟨_, rfl, _, rfl, _, rfl, (by show 2 ≤ sizeLine; decide), fun T hT => ?_⟩
      exact q e he T hT
    · refine ⟨_, rfl, _, rfl, (by show 2 ≤ sizeLine; decide), fun T hT => ?_⟩
      exact q T hT
end
end My

namespace My
open PySem PySem.Spec PyProof.Rows L2 G LamX

/-! ### all but the pot and the tables of code objects stays -/
def IsTb (H : Hp) (b : Addr) : Prop := ∃ ps, H b = some (.tbl ps)
noncomputable abbrev vw (p : Addr) (H : Hp) : Hp := mask (fun b => b = p ∨ IsTb H b) H
theorem vw_le (p : Addr) (H : Hp) : Same (vw p H) H := mask_le _ _
theorem vw_at {p b : Addr} {H : Hp} {o : HO} (h : H b = some o) (hb : b ≠ p) (ho : ∀ ps, o ≠ .tbl ps) : vw p H b = some o := by
  refine (mask_out ?_).trans h
  rintro (z | ⟨ps, z⟩)
  · exact hb z
  · rw [h] at z
    exact ho ps (Option.some.inj z)
theorem vw_some {p b : Addr} {H : Hp} {o : HO} (h : vw p H b = some o) : b ≠ p ∧ H b = some o ∧ ∀ ps, o ≠ .tbl ps := by
  obtain ⟨n, e⟩ := mask_some h
  exact ⟨fun z => n (.inl z), e, fun ps z => n (.inr ⟨ps, by rw [e, z]⟩)⟩
def Kp (p : Addr) (H H' : Hp) : Prop := Same (vw p H) (vw p H')
theorem Kp.refl (p : Addr) (H : Hp) : Kp p H H := Same.refl _
theorem Kp.trans {p : Addr} {H H1 H2 : Hp} (a : Kp p H H1) (b : Kp p H1 H2) : Kp p H H2 := Same.trans a b
theorem Kp.same {p : Addr} {H H' : Hp} (S : Same H H') : Kp p H H' := fun b o e => by
  obtain ⟨n, e, t⟩ := vw_some e
  exact vw_at (S _ _ e) n t
theorem Kp.ext {p : Addr} {H H' : Hp} (S : ExtN H H') : Kp p H H' := fun b o e => by
  obtain ⟨n, e, t⟩ := vw_some e
  exact vw_at (S _ _ e t) n t
theorem Kp.go {p : Addr} {n : Nat} {H H' : Hp} (g : Go p n H H') : Kp p H H' := fun b o e => by
  obtain ⟨n, e, t⟩ := vw_some e
  exact vw_at (g.at e n) n t
theorem Kp.at {p b : Addr} {H H' : Hp} {o : HO} (k : Kp p H H') (h : H b = some o) (hb : b ≠ p) (ho : ∀ ps, o ≠ .tbl ps) : H' b = some o := (vw_some (k b o (vw_at h hb ho))).2.1
mutual
theorem da_strip {p : Addr} {H : Hp} : ∀ {v : V} {d : PyData}, Da (mask (fun b => b = p) H) v d → Da (vw p H) v d
  | _, _, .non => .non
  | _, _, .bl b => .bl b
  | _, _, .int i => .int i
  | _, _, .str x => .str x
  | _, _, .lst e n t => .lst (vw_at (mask_some e).2 (mask_some e).1 fun _ z => nomatch z) n (daAll_strip t)
  | _, _, .tup e t => .tup (vw_at (mask_some e).2 (mask_some e).1 fun _ z => nomatch z) (daAll_strip t)
  | _, _, .dct e t => .dct (vw_at (mask_some e).2 (mask_some e).1 fun _ z => nomatch z) (daAll_strip t)
theorem daAll_strip {p : Addr} {H : Hp} : ∀ {vs : List V} {ds : List PyData}, DaAll (mask (fun b => b = p) H) vs ds → DaAll (vw p H) vs ds
  | _, _, .nil => .nil
  | _, _, .cons h t => .cons (da_strip h) (daAll_strip t)
end
/-- what is asked to divide: 0 as a Ratio, or data -/
def Ob (C p : Addr) (H : Hp) (x : V) : Prop := RatAt C (vw p H) x 0 1 ∨ ∃ d, Da (vw p H) x d ∧ OddG d
theorem Ob.kp {C p : Addr} {H H' : Hp} {x : V} (k : Kp p H H') (o : Ob C p H x) : Ob C p H' x :=
  o.imp (fun h => h.same k) fun ⟨d, a, g⟩ => ⟨d, a.same k, g⟩
theorem RatAt.vw {C p : Addr} {k : Nat} {H : Hp} {v : V} {n u : Int} (pot : PotAt H p k) (h : RatAt C H v n u) : RatAt C (vw p H) v n u := by
  obtain ⟨a, dx, e, h⟩ := h
  refine ⟨a, dx, e, vw_at h (fun z => ?_) fun _ z => nomatch z⟩
  obtain ⟨_, _, _, f, _⟩ := pot
  rw [z, f] at h
  cases h
theorem PairAt.vw {p : Addr} {k : Nat} {H : Hp} {v : V} {n u : Int} (pot : PotAt H p k) (h : PairAt H v n u) : PairAt (vw p H) v n u := by
  obtain ⟨a, e, h⟩ := h
  refine ⟨a, e, vw_at h (fun z => ?_) fun _ z => nomatch z⟩
  obtain ⟨_, _, _, f, _⟩ := pot
  rw [z, f] at h
  cases h
theorem PotAt.ext {p : Addr} {k : Nat} {H H' : Hp} (S : ExtN H H') (h : PotAt H p k) : PotAt H' p k := by
  obtain ⟨a, b, c, e, r⟩ := h
  exact ⟨a, b, c, S _ _ e (fun _ z => nomatch z), r⟩
theorem codeO_no {c : Addr} {q : Str} {xs : List V} : CodeO c q ≠ .lst xs := fun z => by
  unfold CodeO at z
  cases z
theorem Tabs.go {T : List (Addr × Str)} {p : Addr} {m n : Nat} {H H' : Hp} (g : Go p n H H') (pot : PotAt H p m) (t : Tabs T H) : Tabs T H' := fun x hx => by
  obtain ⟨a, b, c, f, _⟩ := pot
  obtain ⟨ps, h1, h2, h3⟩ := t x hx
  refine ⟨ps, g.at h1 (fun z => ?_), h2, fun ps cv hc => ?_⟩
  · rw [z, f] at h1
    cases h1
  · obtain ⟨y, e1, e2⟩ := h3 ps cv hc
    refine ⟨y, e1, g.at e2 fun z => ?_⟩
    rw [z, f] at e2
    exact codeO_no (Option.some.inj e2).symm
theorem da_ty {K : PySem.W.Frag} {mg : Str → Option Value} {a : Ad} (T : Txt K mg a) {H : Hp} {x : V} {d : PyData} (h : Da H x d) : ∃ t, TyX K H x (.type t) ∧ PySem.W.kitOne K (.type t) (.ref a.Ratio) = some false ∧
    ((∃ i, d = .int i ∧ x = .int i ∧ PySem.W.kitOne K (.type t) (.type "int") = some true ∧ PySem.W.kitOne K (.type t) (.type "bool") = some false) ∨
     (∃ b, d = .bool b ∧ PySem.W.kitOne K (.type t) (.type "int") = some true ∧ PySem.W.kitOne K (.type t) (.type "bool") = some true) ∨
     ((∀ i, d ≠ .int i) ∧ (∀ b, d ≠ .bool b) ∧ PySem.W.kitOne K (.type t) (.type "int") = some false ∧ PySem.W.kitOne K (.type t) (.type "bool") = some false)) := by
  cases h with
  | non => exact ⟨"NoneType", .base .non, T.ri.kt _ (by simp), .inr (.inr ⟨(fun _ z => nomatch z), (fun _ z => nomatch z), kit_ty (by decide +kernel), kit_ty (by decide +kernel)⟩)⟩
  | bl b => exact ⟨"bool", .base (.bl b), T.ri.kt _ (by simp), .inr (.inl ⟨b, rfl, kit_ty (by decide +kernel), kit_ty (by decide +kernel)⟩)⟩
  | int i => exact ⟨"int", .base (.int i), T.ri.kt _ (by simp), .inl ⟨i, rfl, rfl, kit_ty (by decide +kernel), kit_ty (by decide +kernel)⟩⟩
  | str y => exact ⟨"str", .base (.str y), T.ri.kt _ (by simp), .inr (.inr ⟨(fun _ z => nomatch z), (fun _ z => nomatch z), kit_ty (by decide +kernel), kit_ty (by decide +kernel)⟩)⟩
  | lst e n t => exact ⟨"list", .base (.lst e), T.ri.kt _ (by simp), .inr (.inr ⟨(fun _ z => nomatch z), (fun _ z => nomatch z), kit_ty (by decide +kernel), kit_ty (by decide +kernel)⟩)⟩
  | tup e t => exact ⟨"tuple", .base (.tup e), T.ri.kt _ (by simp), .inr (.inr ⟨(fun _ z => nomatch z), (fun _ z => nomatch z), kit_ty (by decide +kernel), kit_ty (by decide +kernel)⟩)⟩
  | dct e t => exact ⟨"dict", .base (.dK e), T.ri.kt _ (by simp), .inr (.inr ⟨(fun _ z => nomatch z), (fun _ z => nomatch z), kit_ty (by decide +kernel), kit_ty (by decide +kernel)⟩)⟩
end My

namespace My
open PySem PySem.Spec PyProof.Rows L2 G LamX NdefX
abbrev s__law_odd_right : Stmt := topS 42
theorem sc__law_odd_right : FnScope ["_law_pot_here", "_law_made", "_law_odd_here", "_law_looks", "_law_caught", "_law_due", "_law_error", "_law_value", "_law_look"] ["_law_pot_here"] (defScope s__law_odd_right) := ⟨rfl, rfl, rfl, by decide +kernel, rfl, by decide +kernel, by decide +kernel⟩

def lamP : Str := "_law_odd_right.<locals>.<lambda>"
/-! ### where the lambdas stand in the law's text -/
def noE : Expr := .Name "" ⟨0, 0, 0, 0⟩
def noS : Stmt := .Pass ⟨0, 0, 0, 0⟩
def forB : Stmt → List Stmt
  | .For _ _ b _ _ => b
  | _ => []
def ifB : Stmt → List Stmt
  | .If _ b _ _ => b
  | _ => []
def ifT : Stmt → Expr
  | .If t _ _ _ => t
  | _ => noE
def stE : Stmt → Expr
  | .Assign _ v _ => v
  | .Expr v _ => v
  | .Return (some v) _ => v
  | _ => noE
def eltE (i : Nat) : Expr → Expr
  | .List es _ => es.getD i noE
  | .Tuple es _ _ => es.getD i noE
  | .Call _ es _ _ => es.getD i noE
  | e => e
def opdE : Expr → Expr
  | .UnaryOp _ e _ => e
  | .Subscript e _ _ => e
  | e => e
def lamAr : Expr → Arguments
  | .Lambda a _ _ _ => a
  | _ => ⟨[], [], none, [], [], none, []⟩
def lamBd : Expr → Expr
  | .Lambda _ b _ _ => b
  | e => e
def lamSc : Expr → Scope
  | .Lambda _ _ s _ => s
  | _ => defScope noS
def oddF : List Stmt := forB ((defBody s__law_odd_right).getD 1 noS)
def oddA : List Stmt := ifB (oddF.getD 0 noS)
def oddB : List Stmt := ifB (oddF.getD 1 noS)
def le1 : Expr := eltE 0 (stE (oddA.getD 0 noS))
def le2 : Expr := eltE 0 (stE (oddA.getD 1 noS))
def le3 : Expr := eltE 0 (stE (oddA.getD 2 noS))
def le4 : Expr := eltE 0 (opdE (eltE 0 (opdE (ifT (oddA.getD 5 noS)))))
def le5 : Expr := eltE 0 (stE (oddB.getD 0 noS))
def le6 : Expr := eltE 0 (stE (oddB.getD 1 noS))
def le7 : Expr := eltE 0 (opdE (stE ((defBody s__law_odd_right).getD 2 noS)))
def isLam : Expr → Bool
  | .Lambda .. => true
  | _ => false
theorem are_lams : ([le1, le2, le3, le4, le5, le6, le7].all isLam) = true := by decide +kernel
/-! ### the lambdas' readings -/
abbrev spMkP (K : PySem.W.Frag) (a : Ad) : Sp := spPInit K a.Ratio a.Point a.BadPoint
abbrev spTwP (K : PySem.W.Frag) (a : Ad) : Sp := spTw K a.Ratio a.Point a.BadPoint a.BadNumber
def tR1 (K : PySem.W.Frag) (a : Ad) (E : XK) : TE := tMake a.Point (spMkP K a) [] E (tCons (tVar 0) (tCons (tC (.int 2)) tNil))
def tR2 (K : PySem.W.Frag) (a : Ad) (E : XK) : TE := tMake a.Point (spMkP K a) [] E (tCons (tC (.int 2)) (tCons (tVar 0) tNil))
def tR3 (K : PySem.W.Frag) (a : Ad) (E : XK) : TE := tMake a.Point (spMkP K a) [] E (tCons (tVar 0) (tCons (tVar 0) tNil))
def tR4 (K : PySem.W.Frag) (a : Ad) (E : XK) : TE := tMeth a.Point "towards" (spTwP K a) [] E (tVar 0) (tCons (tVar 0) (tCons (tVar 1) tNil))
def tR5 (K : PySem.W.Frag) (a : Ad) (E : XK) : TE := tMeth a.Point "towards" (spTwP K a) [] E (tVar 0) (tCons (tVar 1) (tCons (tC (.int 1)) tNil))
def tR6 (K : PySem.W.Frag) (a : Ad) (E : XK) : TE := tMeth a.Point "towards" (spTwP K a) [] E (tVar 0) (tCons (tVar 1) (tCons (tC .non) tNil))
def tR7 (K : PySem.W.Frag) (a : Ad) (E : XK) : TE := tMeth a.Point "towards" (spTwP K a) [] E (tVar 0) (tCons (tVar 0) (tCons (tC (.str "1")) tNil))
abbrev dL (X : Cx) (k : Nat) (e : Expr) (fr : List Str) (js : List Nat) (tb : XK → TE) : LamD X := ⟨lamAr e, lamBd e, lamSc e, fr, js, k, tb⟩
theorem goodL {X : Cx} {k : Nat} {e : Expr} {fr : List Str} {js : List Nat} {tb : XK → TE} (h1 : nscB fr [] fr (lamSc e) = true) (h2 : ∀ (q : Str) (cl : List (Str × Addr)) (pm cv ctv : Value), bindArgs (PySem.W.kla_fn "<lambda>" q (lamAr e) (lamBd e) (lamSc e) cl pm cv ctv) ⟨[], []⟩ = pure [])
    (h3 : ndefB X.env.scope (lamSc e) fr = true) (h4 : js.map (fun j => X.N[j]?) = fr.map some)
    (bd : ∀ (f c' : Addr) (A : Around) (outer : List Env) (s : Shared) (H : Hp) (E : XK), Room k (A.deeper (envF (lamOf X (lamAr e) (lamBd e) (lamSc e) c').nf f s.heap.objs.size)) → PE (ncx (L2.CX X.prog X.w) X.prog X.w X.K X.mg X.base fr (lamOf X (lamAr e) (lamBd e) (lamSc e) c').nf f A outer s H E) (lamBd e) (tb E)) :
    (dL X k e fr js tb).Good := ⟨nscope_by h1, h2, ndef_free h3, ndef_fr h3, h4, bd⟩
/-! ### what is no number, what is no point -/
/-- the odd values: a Point, or data -/
def OdX (a : Ad) (H : Hp) (x : V) : Prop := (∃ n u m t, PtAt a.Ratio a.Point H x n u m t) ∨ ∃ d, Da H x d ∧ OddG d
theorem OdX.same {a : Ad} {H H' : Hp} {x : V} (S : Same H H') (h : OdX a H x) : OdX a H' x := h.imp (fun ⟨n, u, m, t, p⟩ => ⟨n, u, m, t, p.same S⟩) fun ⟨d, h, g⟩ => ⟨d, h.same S, g⟩
/-- it is an int, or no number -/
theorem od_num {K : PySem.W.Frag} {mg : Str → Option Value} {a : Ad} (T : Txt K mg a) {H : Hp} {x : V} (h : OdX a H x) : (∃ j : Int, x = .int j ∧ -(10 ^ 9) ≤ j ∧ j ≤ 10 ^ 9) ∨ ((∀ j, x ≠ .int j) ∧ ∃ t b1 b2 b3, TyX K H x t ∧ PySem.W.kitOne K t (.type "int") = some b1 ∧ PySem.W.kitOne K t (.type "bool") = some b2 ∧ PySem.W.kitOne K t (.ref a.Ratio) = some b3 ∧ (b1 && !b2) = false ∧ b3 = false) := by
  rcases h with ⟨n, u, m, t, p⟩ | ⟨d, hd, g⟩
  · refine .inr ⟨fun j e => ?_, _, false, false, false, ptTy T p, T.riP.ki, T.riP.kb, T.rPR, rfl, rfl⟩
    obtain ⟨b, _, _, _, e2, _⟩ := p
    rw [e] at e2
    cases e2
  · obtain ⟨t, t1, t2, z⟩ := da_ty T hd
    rcases z with ⟨i, rfl, rfl, _⟩ | ⟨b, e, k1, k2⟩ | ⟨ni, _, k1, k2⟩
    · obtain ⟨l1, l2⟩ := g.2 i rfl
      exact .inl ⟨i, rfl, l1, l2⟩
    · refine .inr ⟨fun j e2 => ?_, _, true, true, false, t1, k1, k2, t2, rfl, rfl⟩
      subst e e2
      cases hd
    · refine .inr ⟨fun j e2 => ?_, _, false, false, false, t1, k1, k2, t2, rfl, rfl⟩
      subst e2
      cases hd
      exact ni _ rfl
theorem od_isN {K : PySem.W.Frag} {mg : Str → Option Value} {a : Ad} (T : Txt K mg a) {H : Hp} {x : V} (h : OdX a H x) (ni : ∀ j, x ≠ .int j) : IsN K a.Ratio H x false := by
  rcases od_num T h with ⟨j, e, _⟩ | ⟨_, t, b1, b2, b3, t1, k1, k2, k3, e1, e2⟩
  · exact absurd e (ni j)
  · exact ⟨t, b1, b2, b3, t1, k1, k2, k3, by rw [e1, e2]; rfl⟩
theorem int_isN {K : PySem.W.Frag} {mg : Str → Option Value} {a : Ad} (T : Txt K mg a) {H : Hp} (i : Int) : IsN K a.Ratio H (.int i) true := by
  obtain ⟨ty, b1, b2, b3, t1, k1, k2, k3, e⟩ := numTy T (H := H) (v := .int i) (.inl ⟨rfl, rfl⟩)
  exact ⟨ty, b1, b2, b3, t1, k1, k2, k3, e⟩
/-! ### what the lambdas raise -/
/-- a new tuple of these two -/
def TupOf (x y : V) : Hp → V → Prop := fun H v => ∃ t, v = .ref t ∧ H t = some (.tup [x, y])
section
variable {K : PySem.W.Frag} {mg : Str → Option Value} {a : Ad} {H : Hp} {x : V}
theorem ra1 (T : Txt K mg a) (h : OdX a H x) (ni : ∀ j, x ≠ .int j) : Raises a.BadPoint (fun E H Q => tR1 K a E [some x] H Q) H (TupOf x (.int 2)) :=
  fun H1 S1 E' Q' hE => ⟨x, rfl, mk_nopt (fun H' S' => .inl (od_isN T ((h.same S1).same S') ni)) fun dd t H' S' ht hdd => hE dd (.ref t) H' S' hdd ⟨t, rfl, ht⟩⟩
theorem ra2 (T : Txt K mg a) (h : OdX a H x) (ni : ∀ j, x ≠ .int j) : Raises a.BadPoint (fun E H Q => tR2 K a E [some x] H Q) H (TupOf (.int 2) x) :=
  fun H1 S1 E' Q' hE => ⟨x, rfl, mk_nopt (fun H' S' => .inr ⟨int_isN T 2, od_isN T ((h.same S1).same S') ni⟩) fun dd t H' S' ht hdd => hE dd (.ref t) H' S' hdd ⟨t, rfl, ht⟩⟩
theorem ra3 (T : Txt K mg a) (h : OdX a H x) (ni : ∀ j, x ≠ .int j) : Raises a.BadPoint (fun E H Q => tR3 K a E [some x] H Q) H (TupOf x x) :=
  fun H1 S1 E' Q' hE => ⟨x, rfl, x, rfl, mk_nopt (fun H' S' => .inl (od_isN T ((h.same S1).same S') ni)) fun dd t H' S' ht hdd => hE dd (.ref t) H' S' hdd ⟨t, rfl, ht⟩⟩
theorem ra4 (T : Txt K mg a) {p : V} {n u m t : Int} (hp : PtAt a.Ratio a.Point H p n u m t) (h : OdX a H x) (ni : ∀ j, x ≠ .int j) : Raises a.BadNumber (fun E H Q => tR4 K a E [some p, some x] H Q) H (fun _ v => v = x) := by
  intro H1 S1 E' Q' hE
  obtain ⟨b, dx, v, w, rfl, hb, r1, r2⟩ := hp.same S1
  have pt : PtAt a.Ratio a.Point H1 (.ref b) n u m t := ⟨b, dx, v, w, rfl, hb, r1, r2⟩
  exact ⟨_, rfl, b, dx, _, rfl, hb, rfl, _, rfl, x, rfl, _, _, _, n, u, m, t, rfl, pt, .inr (.inr ⟨ptTy T pt, od_isN T (h.same S1) ni, fun d H' S e => hE d x H' S e rfl⟩)⟩
theorem ra5 (T : Txt K mg a) {p : V} {n u m t : Int} (hp : PtAt a.Ratio a.Point H p n u m t) {d : PyData} (hd : Da H x d) (no : ∀ H', Same H H' → NotR K a.Point H' x) : Raises a.BadPoint (fun E H Q => tR5 K a E [some p, some x] H Q) H (fun _ v => v = x) := by
  intro H1 S1 E' Q' hE
  obtain ⟨b, dx, v, w, rfl, hb, r1, r2⟩ := hp.same S1
  have pt : PtAt a.Ratio a.Point H1 (.ref b) n u m t := ⟨b, dx, v, w, rfl, hb, r1, r2⟩
  exact ⟨_, rfl, b, dx, _, rfl, hb, rfl, x, rfl, _, _, _, n, u, m, t, rfl, pt, .inr (.inl ⟨no _ S1, fun d H' S e => hE d x H' S e rfl⟩)⟩
theorem ra6 (T : Txt K mg a) {p : V} {n u m t : Int} (hp : PtAt a.Ratio a.Point H p n u m t) {d : PyData} (hd : Da H x d) (no : ∀ H', Same H H' → NotR K a.Point H' x) : Raises a.BadPoint (fun E H Q => tR6 K a E [some p, some x] H Q) H (fun _ v => v = x) := by
  intro H1 S1 E' Q' hE
  obtain ⟨b, dx, v, w, rfl, hb, r1, r2⟩ := hp.same S1
  have pt : PtAt a.Ratio a.Point H1 (.ref b) n u m t := ⟨b, dx, v, w, rfl, hb, r1, r2⟩
  exact ⟨_, rfl, b, dx, _, rfl, hb, rfl, x, rfl, _, _, _, n, u, m, t, rfl, pt, .inr (.inl ⟨no _ S1, fun d H' S e => hE d x H' S e rfl⟩)⟩
theorem ra7 (T : Txt K mg a) {p : V} {n u m t : Int} (hp : PtAt a.Ratio a.Point H p n u m t) : Raises a.BadNumber (fun E H Q => tR7 K a E [some p] H Q) H (fun _ v => v = .str "1") := by
  intro H1 S1 E' Q' hE
  obtain ⟨b, dx, v, w, rfl, hb, r1, r2⟩ := hp.same S1
  have pt : PtAt a.Ratio a.Point H1 (.ref b) n u m t := ⟨b, dx, v, w, rfl, hb, r1, r2⟩
  exact ⟨_, rfl, b, dx, _, rfl, hb, rfl, _, rfl, _, _, _, n, u, m, t, rfl, pt, .inr (.inr ⟨ptTy T pt, ⟨_, false, false, false, .base (.str _), kit_ty (by decide +kernel), kit_ty (by decide +kernel), T.ri.kt _ (by simp), rfl⟩, fun d H' S e => hE d _ H' S e rfl⟩)⟩
end
def spOddR (Pt : Addr) : Sp := fun vs H Q _ => ∃ p k, vs = [.ref p] ∧ PotAt H p k ∧ k ≤ 80000 ∧ Tabs [(Pt, lamP)] H ∧ ∀ H', Tabs [(Pt, lamP)] H' → Kp p H H' → PotAt H' p (k + 1) → Q (.bl true) H'
end My

namespace My
open PySem PySem.Spec PyProof.Rows L2 G LamX NdefX
theorem Kp.over {p D : Addr} {H H' : Hp} {ys : List V} (k : Kp p H H') (n : H D = none) : Kp p H (upd H' D (.lst ys)) := fun b o e => by
  obtain ⟨nb, eb, t⟩ := vw_some e
  exact vw_at (by rw [upd_ne (ne_of_none eb n)]; exact k.at eb nb t) nb t
theorem PotAt.over {p D : Addr} {k : Nat} {H : Hp} {o : HO} (h : PotAt H p k) (n : D ≠ p) : PotAt (upd H D o) p k := by
  obtain ⟨x, y, z, e, r⟩ := h
  exact ⟨x, y, z, by rw [upd_ne n.symm]; exact e, r⟩
theorem lst_ne {H : Hp} {D b : Addr} {xs : List V} {o : HO} (hD : H D = some (.lst xs)) (h : H b = some o) (no : ∀ ys, o ≠ .lst ys) : b ≠ D := fun z => by
  rw [z, hD] at h
  exact no xs (Option.some.inj h).symm
theorem Tabs.over {T : List (Addr × Str)} {D : Addr} {H : Hp} {xs ys : List V} (t : Tabs T H) (hD : H D = some (.lst xs)) : Tabs T (upd H D (.lst ys)) := fun x hx => by
  obtain ⟨ps, h1, h2, h3⟩ := t x hx
  refine ⟨ps, by rw [upd_ne (lst_ne hD h1 fun _ z => nomatch z)]; exact h1, h2, fun ps cv hc => ?_⟩
  obtain ⟨y, e1, e2⟩ := h3 ps cv hc
  exact ⟨y, e1, by rw [upd_ne (lst_ne hD e2 fun _ => codeO_no)]; exact e2⟩
/-- all but the list and the tables stays -/
def Stay (L : Addr) (H H' : Hp) : Prop := ∀ b o, H b = some o → (∀ ps, o ≠ .tbl ps) → (∀ ys, o ≠ .lst ys) → H' b = some o
theorem Stay.trans {L : Addr} {H H1 H2 : Hp} (a : Stay L H H1) (b : Stay L H1 H2) : Stay L H H2 := fun c o e t l => b c o (a c o e t l) t l
theorem Stay.same {L : Addr} {H H' : Hp} (S : Same H H') : Stay L H H' := fun b o e _ _ => S b o e
theorem Stay.ext {L : Addr} {H H' : Hp} (S : ExtN H H') : Stay L H H' := fun b o e t _ => S b o e t
theorem Stay.put {L : Addr} {H : Hp} {xs ys : List V} (h : H L = some (.lst xs)) : Stay L H (upd H L (.lst ys)) := fun b o e _ l => by rw [upd_ne (lst_ne h e l)]; exact e
/-- a lambda in the list -/
def LItem (H : Hp) (mk : Addr → LF) (q : V) : Prop := ∃ f c', q = .ref f ∧ H f = some (LamO f (mk c')) ∧ H c' = some (CodeO c' (mk c').qual)
theorem LItem.stay {L : Addr} {H H' : Hp} {mk : Addr → LF} {q : V} (S : Stay L H H') (h : LItem H mk q) : LItem H' mk q := by
  obtain ⟨f, c', rfl, h3, h4⟩ := h
  exact ⟨f, c', rfl, S _ _ h3 (fun _ => lamO_ne _) (fun _ => lamO_no), S _ _ h4 (fun _ => codeO_ne _) (fun _ => codeO_no)⟩
/-- where the making of the list stands -/
structure SL (Pt p : Addr) (k : Nat) (H0 H : Hp) (L : Addr) (qs : List V) : Prop where
  tb : Tabs [(Pt, lamP)] H
  pt : PotAt H p k
  kp : Kp p H0 H
  hl : H L = some (.lst qs)
  nL : H0 L = none
  np : L ≠ p
theorem fst_item {Pt p : Addr} {k : Nat} {H : Hp} {σ : L2.St} {mk : Addr → LF} {D : Ends} (tb : Tabs [(Pt, lamP)] H) (pt : PotAt H p k)
    (q : ∀ H' x L, SL Pt p k H H' L [x] → LItem H' mk x → D.nx (σ.set 3 (some (.ref L))) H') : tAsg (tLstS (tCons (tLamK [(Pt, lamP)] mk) tNil)) (gName 3) D σ H := by
  refine ⟨tb, fun f c' H1 eN T1 nn nf hf hc => ⟨(by show 1 ≤ sizeLine; decide), fun L fL sL => ?_⟩⟩
  have S1 := same_new (o := .lst [.ref f]) fL
  exact q _ _ L ⟨Tabs.ext T1 S1, (pt.ext eN).same S1, Kp.ext (eN.trans (ExtN.of S1)), upd_same, nn L fL, fun z => (pt.ext eN).has (by rw [← z]; exact fL)⟩ ⟨f, c', rfl, S1 _ _ hf, S1 _ _ hc⟩
theorem add_item {K : PySem.W.Frag} {Pt p L : Addr} {k : Nat} {H0 H : Hp} {σ : L2.St} {mk : Addr → LF} {qs : List V} {D : Ends} (hσ : σ[3]? = some (some (.ref L))) (st : SL Pt p k H0 H L qs) (hn : qs.length < 100)
    (q : ∀ H' x, SL Pt p k H0 H' L (qs ++ [x]) → Stay L H H' → LItem H' mk x → D.nx σ H') : tDrop (tBM K "list" rAppend (tVar 3) (tCons (tLamK [(Pt, lamP)] mk) tNil)) D σ H := by
  refine ⟨_, hσ, .inl ⟨rfl, _, SqL.of st.hl⟩, st.tb, fun f c' H1 eN T1 nn nf hf hc => ?_⟩
  have hl' := eN _ _ st.hl fun _ z => nomatch z
  refine ⟨_, _, _, rfl, rfl, hl', by rw [sizeLine_eq]; omega, ?_⟩
  have it : LItem H1 mk (.ref f) := ⟨f, c', rfl, hf, hc⟩
  exact q _ _ ⟨Tabs.over T1 hl', (st.pt.ext eN).over st.np, (st.kp.trans (Kp.ext eN)).over st.nL, upd_same, st.nL, st.np⟩ ((Stay.ext eN).trans (Stay.put hl')) (it.stay (Stay.put hl'))
/-- an odd value, by what stays -/
def OdV (a : Ad) (p : Addr) (H : Hp) (x : V) : Prop := OdX a (vw p H) x
theorem OdV.kp {a : Ad} {p : Addr} {H H' : Hp} {x : V} (k : Kp p H H') (o : OdV a p H x) : OdV a p H' x := OdX.same k o
theorem told_raises {K : PySem.W.Frag} {B AE : Addr} {tl : XK → Hp → VK → Prop} {H : Hp} {Q : VK} {vP : Hp → V → Prop} (ra : Raises B tl H vP) (hm : ∀ H H' v, Same H H' → vP H v → vP H' v) (hx : PySem.W.exmOne K (.ref B) (.ref AE) = some true)
    (q : ∀ H' e t wv, Same H H' → H' t = some (.tup [.ref e, .non]) → Caught H' e B wv → vP H' wv → Q (.ref t) H') : TTold K AE tl H Q := by
  intro H1 S1 E' Q' hE hQ
  refine ra H1 S1 E' Q' fun dd wv H' S2 hdd hw => hE B (some dd) H' hx fun e he t ht => ?_
  have Se := same_new (o := exc e B (some dd)) he
  have St := same_new (o := .tup [.ref e, .non]) ht
  exact q _ e t wv (((S1.trans S2).trans Se).trans St) upd_same ⟨dd, St _ _ upd_same, St _ _ (Se _ _ hdd)⟩ (hm _ _ _ (Se.trans St) hw)
theorem caught_put {H : Hp} {D e C : Addr} {xs ys : List V} {v : V} (hD : H D = some (.lst xs)) (c : Caught H e C v) : Caught (upd H D (.lst ys)) e C v := by
  obtain ⟨d, h1, h2⟩ := c
  exact ⟨d, by rw [upd_ne (lst_ne hD h1 fun _ z => by unfold exc at z; cases z)]; exact h1, by rw [upd_ne (lst_ne hD h2 fun _ z => nomatch z)]; exact h2⟩
theorem tupOf_put {H : Hp} {D : Addr} {xs ys : List V} {x y v : V} (hD : H D = some (.lst xs)) (c : TupOf x y H v) : TupOf x y (upd H D (.lst ys)) v := by
  obtain ⟨t, rfl, h⟩ := c
  exact ⟨t, rfl, by rw [upd_ne (lst_ne hD h fun _ z => nomatch z)]; exact h⟩
theorem tupOf_same {H H' : Hp} {x y v : V} (S : Same H H') (c : TupOf x y H v) : TupOf x y H' v := let ⟨t, e, h⟩ := c; ⟨t, e, S _ _ h⟩
theorem od_one {a : Ad} {H H' : Hp} {x : V} (h : OdX a H x) : DOne x x H' := by
  rcases h with ⟨n, u, m, t, b, dx, v, w, rfl, _⟩ | ⟨d, hd, _⟩
  · exact .inr ⟨b, rfl, rfl⟩
  · cases hd with
    | non => exact .inl ⟨rfl, rfl, rfl⟩
    | bl b => exact .inl ⟨rfl, rfl, by cases b <;> rfl⟩
    | int i => exact .inl ⟨rfl, rfl, by simp [eqV]⟩
    | str z => exact .inl ⟨rfl, rfl, by simp [eqV]⟩
    | lst e n t => exact .inr ⟨_, rfl, rfl⟩
    | tup e t => exact .inr ⟨_, rfl, rfl⟩
    | dct e t => exact .inr ⟨_, rfl, rfl⟩
theorem da_notP {K : PySem.W.Frag} {mg : Str → Option Value} {a : Ad} (T : Txt K mg a) {H : Hp} {x : V} {d : PyData} (h : Da H x d) : NotR K a.Point H x := by
  cases h with
  | non => exact ⟨_, .base .non, T.riP.kt _ (by simp)⟩
  | bl b => exact ⟨_, .base (.bl b), T.riP.kt _ (by simp)⟩
  | int i => exact ⟨_, .base (.int i), T.riP.kt _ (by simp)⟩
  | str y => exact ⟨_, .base (.str y), T.riP.kt _ (by simp)⟩
  | lst e n t => exact ⟨_, .base (.lst e), T.riP.kt _ (by simp)⟩
  | tup e t => exact ⟨_, .base (.tup e), T.riP.kt _ (by simp)⟩
  | dct e t => exact ⟨_, .base (.dK e), T.riP.kt _ (by simp)⟩
/-- isinstance of a caught error, and what it keeps, within a comprehension -/
def rIsC (K : PySem.W.Frag) : List V → Hp → VK → Prop := fun xs H Q => ∃ (a C : Addr) (v c : V) (u : Value) (b : Bool), xs = [.ref a, c] ∧ ClsV c u ∧ EC K C ∧ Caught H a C v ∧ PySem.W.kitOne K (.ref C) u = some b ∧ Q (.bl b) H
def tValC (K : PySem.W.Frag) (te : TE) : TE := fun σ H Q => te σ H fun x H1 => ∃ a C v, x = .ref a ∧ EC K C ∧ Caught H1 a C v ∧ Q v H1
section
variable {P : Program} {w : World} {K : PySem.W.Frag} {mg : Str → Option Value} {base : Heap} {a : Ad}
abbrev oddN : List Str := ["_law_pot_here", "_law_made", "_law_odd_here", "_law_looks", "_law_caught", "_law_due", "_law_error", "_law_value", "_law_look"]
abbrev cxOdd (P : Program) (w : World) (K : PySem.W.Frag) (mg : Str → Option Value) (base : Heap) (a : Ad) (cA : Addr) (A : Around) (outer : List Env) (s : Shared) (H : Hp) (E : XK) : Cx :=
  (cxOf CX0 P w K mg base oddN "_law_odd_right" (defScope s__law_odd_right) a._law_odd_right (.ref cA) A outer s H E).nox
theorem ok_odd_right {cA Pt : Addr} {oc kV doc pm ct : Value} {an od : Option Addr} {osl : Array (Option Value)} (T : Txt K mg a)
    (lk : K.lookup a._law_odd_right = some ⟨oc, od, .func (PySem.W.fnOf "_law_odd_right" "_law_odd_right" (defArgs s__law_odd_right) (defBody s__law_odd_right) (defScope s__law_odd_right) .none kV doc pm an (.ref cA) ct), osl⟩)
    (hc : PySem.W.codeIn K (.ref cA) "_law_odd_right" = true) (TB : TabB base mg cA Pt)
    {fdt : FuncData} (Gt : FnC P w K mg base CX0 1 a._law_told fdt ["_law_ask"] (spTold K a.AboutError)) (bt : Binds K fdt ["_law_ask"] [])
    {fd_Point_towards : FuncData} (G_Point_towards : FnOk P w K mg base (L2.CX P w) 8 a.Point_towards fd_Point_towards ["self", "other", "share"] (spTw K a.Ratio a.Point a.BadPoint a.BadNumber)) (b_Point_towards : Binds K fd_Point_towards ["self", "other", "share"] [])
    {fd__law_odd : FuncData} (G__law_odd : Fn P w K mg base CX0 3 a._law_odd fd__law_odd ["_law_pot_here"] spOdd0) (b__law_odd : Binds K fd__law_odd ["_law_pot_here"] [])
    {fd_Point___init__ : FuncData} (G_Point___init__ : FnOk P w K mg base (L2.CX P w) 6 a.Point___init__ fd_Point___init__ ["self", "x", "y"] (spPInit K a.Ratio a.Point a.BadPoint)) (b_Point___init__ : Binds K fd_Point___init__ ["self", "x", "y"] [])
    {fd__law_is_int : FuncData} (G__law_is_int : Fn P w K mg base CX0 1 a._law_is_int fd__law_is_int ["_law_value", "_law_low", "_law_high"] (spLi K)) (b__law_is_int : Binds K fd__law_is_int ["_law_value", "_law_low", "_law_high"] [])
    {fd_Ratio___init__ : FuncData} (G_Ratio___init__ : FnOk P w K mg base CX0 2 a.Ratio___init__ fd_Ratio___init__ ["self", "number", "under"] (spInit K a.Ratio)) (b_Ratio___init__ : Binds K fd_Ratio___init__ ["self", "number", "under"] [])
    {ds_Ratio___init__ : List Value} (d_Ratio___init__ : Vals [.int 1] ds_Ratio___init__ ∧ Binds K fd_Ratio___init__ ["self", "number", "under"] ds_Ratio___init__)
    : Fn P w K mg base CX0 13 a._law_odd_right (PySem.W.fnOf "_law_odd_right" "_law_odd_right" (defArgs s__law_odd_right) (defBody s__law_odd_right) (defScope s__law_odd_right) .none kV doc pm an (.ref cA) ct) ["_law_pot_here"] (spOddR Pt) := by
  refine fnOf lk hc sc__law_odd_right (fun vs H Q E h => ?len) (fun A outer s H vs Q E hq hr h => ?body)
  case len => obtain ⟨p, k, rfl, _⟩ := h; rfl
  case body =>
    suffices z : ∃ t, PSs (cxOdd P w K mg base a cA A outer s H E) (defBody s__law_odd_right) t ∧ t { nx := fun _ H' => Q .non H', rt := Q } (L2.start oddN vs) H by
      obtain ⟨t, z1, z2⟩ := z
      exact ⟨t, z1.nox, z2⟩
    have g1 : (dL (cxOdd P w K mg base a cA A outer s H E) 9 le1 ["_law_odd_here"] [2] (tR1 K a)).Good := goodL (by decide +kernel) (fun _ _ _ _ _ => rfl) (show ndefB (defScope s__law_odd_right) (lamSc le1) ["_law_odd_here"] = true by decide +kernel) rfl fun f c' A outer s H E hr2 =>
      pe_make T.m_Point G_Point___init__ (hr2.mono (by omega)) (by rfl) T.g_Point b_Point___init__ .nil (passes_call (takes_of rfl rfl rfl rfl) fun _ _ _ _ h => h) (pa_cons (pv 0) (pa_cons pe_int pa_nil))
    have g2 : (dL (cxOdd P w K mg base a cA A outer s H E) 9 le2 ["_law_odd_here"] [2] (tR2 K a)).Good := goodL (by decide +kernel) (fun _ _ _ _ _ => rfl) (show ndefB (defScope s__law_odd_right) (lamSc le2) ["_law_odd_here"] = true by decide +kernel) rfl fun f c' A outer s H E hr2 =>
      pe_make T.m_Point G_Point___init__ (hr2.mono (by omega)) (by rfl) T.g_Point b_Point___init__ .nil (passes_call (takes_of rfl rfl rfl rfl) fun _ _ _ _ h => h) (pa_cons pe_int (pa_cons (pv 0) pa_nil))
    have g3 : (dL (cxOdd P w K mg base a cA A outer s H E) 9 le3 ["_law_odd_here"] [2] (tR3 K a)).Good := goodL (by decide +kernel) (fun _ _ _ _ _ => rfl) (show ndefB (defScope s__law_odd_right) (lamSc le3) ["_law_odd_here"] = true by decide +kernel) rfl fun f c' A outer s H E hr2 =>
      pe_make T.m_Point G_Point___init__ (hr2.mono (by omega)) (by rfl) T.g_Point b_Point___init__ .nil (passes_call (takes_of rfl rfl rfl rfl) fun _ _ _ _ h => h) (pa_cons (pv 0) (pa_cons (pv 0) pa_nil))
    have g4 : (dL (cxOdd P w K mg base a cA A outer s H E) 9 le4 ["_law_made", "_law_odd_here"] [1, 2] (tR4 K a)).Good := goodL (by decide +kernel) (fun _ _ _ _ _ => rfl) (show ndefB (defScope s__law_odd_right) (lamSc le4) ["_law_made", "_law_odd_here"] = true by decide +kernel) rfl fun f c' A outer s H E hr2 =>
      pe_meth (pv 0) T.clP T.tw G_Point_towards (hr2.mono (by omega)) b_Point_towards .nil (passes_call (takes_of rfl rfl rfl rfl) fun _ _ _ _ h => h) (pa_cons (pv 0) (pa_cons (pv 1) pa_nil))
    have g5 : (dL (cxOdd P w K mg base a cA A outer s H E) 9 le5 ["_law_made", "_law_odd_here"] [1, 2] (tR5 K a)).Good := goodL (by decide +kernel) (fun _ _ _ _ _ => rfl) (show ndefB (defScope s__law_odd_right) (lamSc le5) ["_law_made", "_law_odd_here"] = true by decide +kernel) rfl fun f c' A outer s H E hr2 =>
      pe_meth (pv 0) T.clP T.tw G_Point_towards (hr2.mono (by omega)) b_Point_towards .nil (passes_call (takes_of rfl rfl rfl rfl) fun _ _ _ _ h => h) (pa_cons (pv 1) (pa_cons pe_int pa_nil))
    have g6 : (dL (cxOdd P w K mg base a cA A outer s H E) 9 le6 ["_law_made", "_law_odd_here"] [1, 2] (tR6 K a)).Good := goodL (by decide +kernel) (fun _ _ _ _ _ => rfl) (show ndefB (defScope s__law_odd_right) (lamSc le6) ["_law_made", "_law_odd_here"] = true by decide +kernel) rfl fun f c' A outer s H E hr2 =>
      pe_meth (pv 0) T.clP T.tw G_Point_towards (hr2.mono (by omega)) b_Point_towards .nil (passes_call (takes_of rfl rfl rfl rfl) fun _ _ _ _ h => h) (pa_cons (pv 1) (pa_cons pe_non pa_nil))
    have g7 : (dL (cxOdd P w K mg base a cA A outer s H E) 9 le7 ["_law_made"] [1] (tR7 K a)).Good := goodL (by decide +kernel) (fun _ _ _ _ _ => rfl) (show ndefB (defScope s__law_odd_right) (lamSc le7) ["_law_made"] = true by decide +kernel) rfl fun f c' A outer s H E hr2 =>
      pe_meth (pv 0) T.clP T.tw G_Point_towards (hr2.mono (by omega)) b_Point_towards .nil (passes_call (takes_of rfl rfl rfl rfl) fun _ _ _ _ h => h) (pa_cons (pv 0) (pa_cons pe_str pa_nil))
    obtain ⟨Ds, hDs⟩ : ∃ Ds : List (LamD (cxOdd P w K mg base a cA A outer s H E)), Ds = [dL _ 9 le1 ["_law_odd_here"] [2] (tR1 K a), dL _ 9 le2 ["_law_odd_here"] [2] (tR2 K a), dL _ 9 le3 ["_law_odd_here"] [2] (tR3 K a), dL _ 9 le5 ["_law_made", "_law_odd_here"] [1, 2] (tR5 K a), dL _ 9 le6 ["_law_made", "_law_odd_here"] [1, 2] (tR6 K a)] := ⟨_, rfl⟩
    have gds : ∀ D ∈ Ds, D.Good := fun D hD => by
      rw [hDs] at hD
      simp only [List.mem_cons, List.not_mem_nil, or_false] at hD
      rcases hD with rfl | rfl | rfl | rfl | rfl <;> assumption
    have hrs : ∀ D ∈ Ds, Room (D.k + 1 + 1) (cxOdd P w K mg base a cA A outer s H E).A := fun D hD => by
      rw [hDs] at hD
      simp only [List.mem_cons, List.not_mem_nil, or_false] at hD
      rcases hD with rfl | rfl | rfl | rfl | rfl <;> exact hr.mono (by show 9 + 1 + 1 ≤ 12; decide)
    refine ⟨_, (pss_cons (ps_set (i := 1) sc__law_odd_right.nd rfl (Or.inr rfl) (pe_make T.m_Point G_Point___init__ (hr.mono (by omega)) (by rfl) T.g_Point b_Point___init__ .nil passF (pa_cons pe_int (pa_cons (pe_make T.m_Ratio G_Ratio___init__ (hr.mono (by omega)) (by rfl) T.g_Ratio b_Ratio___init__ .nil pass0 (pa_cons pe_int (pa_cons pe_int pa_nil))) pa_nil))))
      (pss_cons (ps_for PassesOwn.never rfl (pi_tup (pe_tup (pa_cons pe_bl (pa_cons pe_non (pa_cons pe_str (pa_cons (pe_tup (pa_cons pe_int (pa_cons pe_int pa_nil))) (pa_cons (pe_lstS pa_nil) (pa_cons (pv 1) (pa_cons (pe_fn G__law_odd hq (hr.mono (by omega)) (by rfl) T.g__law_odd T.k__law_odd b__law_odd .nil pass0 (pa_cons (pv 0) pa_nil)) pa_nil))))))))) (pg_name (i := 2) sc__law_odd_right.nd rfl (Or.inr rfl)) (Evl.pss_cut (ps_if (pt_not (pt_val (pe_fn G__law_is_int hq (hr.mono (by omega)) (by rfl) T.g__law_is_int T.k__law_is_int b__law_is_int .nil pass0 (pa_cons (pv 2) (pa_cons (pe_un un_neg (pe_op op_powW pe_int pe_int)) (pa_cons (pe_op op_powW pe_int pe_int) pa_nil)))))) (pss_cons (ps_set (i := 3) sc__law_odd_right.nd rfl (Or.inl rfl) (pe_lstS (pa_cons (pe_lamK (T := [(Pt, lamP)]) TB rfl (List.mem_singleton.mpr rfl) (fun q hq _ => by rw [List.mem_singleton.mp hq]; rfl) rfl (lamS_by (sc := defScope s__law_odd_right) (by decide +kernel))) pa_nil)))
      (pss_cons (ps_expr (pe_bm PySem.F.plainAttrs_list PySem.F.slot_list_append PySem.F.type_list_append mt_append (pv 3) (pa_cons (pe_lamK (T := [(Pt, lamP)]) TB rfl (List.mem_singleton.mpr rfl) (fun q hq _ => by rw [List.mem_singleton.mp hq]; rfl) rfl (lamS_by (sc := defScope s__law_odd_right) (by decide +kernel))) pa_nil)))
      (pss_cons (ps_expr (pe_bm PySem.F.plainAttrs_list PySem.F.slot_list_append PySem.F.type_list_append mt_append (pv 3) (pa_cons (pe_lamK (T := [(Pt, lamP)]) TB rfl (List.mem_singleton.mpr rfl) (fun q hq _ => by rw [List.mem_singleton.mp hq]; rfl) rfl (lamS_by (sc := defScope s__law_odd_right) (by decide +kernel))) pa_nil)))
      (pss_cons (ps_par (i := 4) (j := 5) (by rfl) sc__law_odd_right.nd rfl rfl (by decide) rfl rfl (pa_cons (pe_lcC (own := [("_law_look", 8)]) (g := gName 8) rfl sc__law_odd_right.nd (pi_list (pv 3)) (blkOk_by (own := [("_law_look", 8)]) (N := oddN) (sc := defScope s__law_odd_right) (by decide +kernel)) (fun _ _ _ _ _ => pg_name (i := 8) sc__law_odd_right.nd rfl (Or.inl rfl) (hf := Or.inr rfl)) (fun pins0 σ0 s0 H0 C0 cl0 fp0 I0 hf0 => pe_ix (show IxR _ (rIxT K) from ix_tup) (pe_fnC Gt hq (by rfl) T.g__law_told T.k__law_told bt .nil pass0 (pa_cons (pv 8) pa_nil) (known_blk (Ds := Ds) I0 hf0 gds (fun _ _ _ => rfl) hrs)) pe_int (fun _ _ => rfl))) (pa_cons (pe_lstS (pa_cons (pe_tup (pa_cons (pv 2) (pa_cons pe_int pa_nil))) (pa_cons (pe_tup (pa_cons pe_int (pa_cons (pv 2) pa_nil))) (pa_cons (pe_tup (pa_cons (pv 2) (pa_cons (pv 2) pa_nil))) pa_nil)))) pa_nil)) (by rfl))
      (pss_cons (ps_for PassesOwn.never rfl (pi_zip (by rfl) T.n_zip (pa_cons (pv 4) (pa_cons (pv 5) pa_nil))) (pg_tup rfl (pgs_cons (pg_name (i := 6) sc__law_odd_right.nd rfl (Or.inl rfl)) (pgs_cons (pg_name (i := 7) sc__law_odd_right.nd rfl (Or.inl rfl)) pgs_nil))) (pss_one (ps_if (PW.pt (pw_or (pt_not (pt_val (pe_callB (call_isCaught T.ek) (by rfl) T.n_isinstance (by decide +kernel) (pa_cons (pv 6) (pa_cons (pe_glob (v := .ref a.BadPoint) (by rfl) T.g_BadPoint rfl) pa_nil))))) (pw_or1 (pt_not (pt_cmpR (op_eqOne (hr.mono (by omega))) (pe_valueC (pv 6)) (pv 7) (nomark _)))))) (pss_one (ps_ret pe_bl)) pss_nil)))
      (pss_one (ps_if (pt_not (pt_val (pe_callB (call_isCaught T.ek) (by rfl) T.n_isinstance (by decide +kernel) (pa_cons (pe_ix ix_tup (pe_fnC Gt hq (by rfl) T.g__law_told T.k__law_told bt .nil pass0 (pa_cons (pe_lamK (T := [(Pt, lamP)]) TB rfl (List.mem_singleton.mpr rfl) (fun q hq _ => by rw [List.mem_singleton.mp hq]; rfl) rfl (lamS_by (sc := defScope s__law_odd_right) (by decide +kernel))) pa_nil) (known_here g4 (fun _ _ _ => rfl) (hr.mono (by show 9 + 1 + 1 ≤ 12; decide)))) pe_int (fun _ _ => rfl)) (pa_cons (pe_glob (v := .ref a.BadNumber) (by rfl) T.g_BadNumber rfl) pa_nil))))) (pss_one (ps_ret pe_bl)) pss_nil))))))) pss_nil)
      (pss_one (ps_if (pt_not (pt_val (pe_callB call_isi (by rfl) T.n_isinstance (by decide +kernel) (pa_cons (pv 2) (pa_cons (pe_glob (v := .ref a.Point) (by rfl) T.g_Point rfl) pa_nil))))) (pss_cons (ps_set (i := 3) sc__law_odd_right.nd rfl (Or.inl rfl) (pe_lstS (pa_cons (pe_lamK (T := [(Pt, lamP)]) TB rfl (List.mem_singleton.mpr rfl) (fun q hq _ => by rw [List.mem_singleton.mp hq]; rfl) rfl (lamS_by (sc := defScope s__law_odd_right) (by decide +kernel))) pa_nil)))
      (pss_cons (ps_expr (pe_bm PySem.F.plainAttrs_list PySem.F.slot_list_append PySem.F.type_list_append mt_append (pv 3) (pa_cons (pe_lamK (T := [(Pt, lamP)]) TB rfl (List.mem_singleton.mpr rfl) (fun q hq _ => by rw [List.mem_singleton.mp hq]; rfl) rfl (lamS_by (sc := defScope s__law_odd_right) (by decide +kernel))) pa_nil)))
      (pss_cons (ps_setLcC (i := 4) (own := [("_law_look", 8)]) (g := gName 8) rfl sc__law_odd_right.nd rfl rfl (sw_true rfl rfl rfl (by decide +kernel)) (pi_list (pv 3)) (blkOk_by (own := [("_law_look", 8)]) (N := oddN) (sc := defScope s__law_odd_right) (by decide +kernel)) (fun _ _ _ _ _ => pg_name (i := 8) sc__law_odd_right.nd rfl (Or.inl rfl) (hf := Or.inr rfl)) (fun pins0 σ0 s0 H0 C0 cl0 fp0 I0 hf0 => pe_ix (show IxR _ (rIxT K) from ix_tup) (pe_fnC Gt hq (by rfl) T.g__law_told T.k__law_told bt .nil pass0 (pa_cons (pv 8) pa_nil) (known_blk (Ds := Ds) I0 hf0 gds (fun _ _ _ => rfl) hrs)) pe_int (fun _ _ => rfl)))
      (pss_one (ps_if (pt_not (pt_val (pe_callB (cr_all rfl) (by rfl) T.n_all (by decide +kernel) (pa_cons (pe_lc (own := [("_law_error", 6)]) (g := gName 6) (tt := tYes) rfl sc__law_odd_right.nd (pi_list (pv 4)) (blkOk_by (own := [("_law_error", 6)]) (N := ["_law_pot_here", "_law_made", "_law_odd_here", "_law_looks", "_law_caught", "_law_due", "_law_error", "_law_value", "_law_look"]) (sc := defScope s__law_odd_right) (by decide +kernel)) (fun _ _ _ _ _ => (pg_name (i := 6) sc__law_odd_right.nd rfl (Or.inl rfl))) (fun _ _ _ _ _ => pts_nil) (fun _ _ _ _ _ => (pe_and (pe_callB (show CallR _ (.builtin "isinstance") (rIsC K) from call_isCaught T.ek) (by rfl) T.n_isinstance (by decide +kernel) (pa_cons (pv 6) (pa_cons (pe_glob (v := .ref a.BadPoint) (by rfl) T.g_BadPoint rfl) pa_nil))) (pe_one (pe_cmpR op_eq (pe_callB (call_reprD hq hr.units) (by rfl) T.n_repr (by decide +kernel) (pa_cons (show PE _ _ (tValC K (tVar 6)) from pe_valueC (pv 6)) pa_nil)) (pe_callB (call_reprD hq hr.units) (by rfl) T.n_repr (by decide +kernel) (pa_cons (pv 2) pa_nil)) (nomark _)))))) pa_nil)))) (pss_one (ps_ret pe_bl)) pss_nil))))) pss_nil))))
      (pss_cons (ps_set (i := 4) sc__law_odd_right.nd rfl (Or.inl rfl) (pe_ix ix_tup (pe_fnC Gt hq (by rfl) T.g__law_told T.k__law_told bt .nil pass0 (pa_cons (pe_lamK (T := [(Pt, lamP)]) TB rfl (List.mem_singleton.mpr rfl) (fun q hq _ => by rw [List.mem_singleton.mp hq]; rfl) rfl (lamS_by (sc := defScope s__law_odd_right) (by decide +kernel))) pa_nil) (known_here g7 (fun _ _ _ => rfl) (hr.mono (by show 9 + 1 + 1 ≤ 12; decide)))) pe_int (fun _ _ => rfl)))
      (pss_one (ps_ret (pe_and (pe_callB (call_isCaught T.ek) (by rfl) T.n_isinstance (by decide +kernel) (pa_cons (pv 4) (pa_cons (pe_glob (v := .ref a.BadNumber) (by rfl) T.g_BadNumber rfl) pa_nil))) (pe_one (pe_cmpR op_eq (pe_callB (call_reprD hq hr.units) (by rfl) T.n_repr (by decide +kernel) (pa_cons (pe_valueC (pv 4)) pa_nil)) (pe_callB (call_reprD hq hr.units) (by rfl) T.n_repr (by decide +kernel) (pa_cons pe_str pa_nil)) (nomark _))))))))), ?_⟩
    obtain ⟨p, k, rfl, pot, hk, tabs, q⟩ := h
    -- the point
    intro x1 d1 c1 c2 c3
    refine mk_at (n := 1) (u := 2) (by decide) (by decide +kernel) c1 c2 c3 fun H1 S1 r1 => ⟨rfl, ?_⟩
    rw [show rNum 1 2 = 1 by decide +kernel, show rUnd 1 2 = 2 by decide +kernel] at r1
    intro x2 d2 c1 c2 c3
    refine mk_pt (n := 3) (u := 1) (.inl ⟨rfl, rfl⟩) (.inr r1) c1 c2 c3 fun H2 S2 mp => ⟨rfl, ?_⟩
    have S02 := S1.trans S2
    have pot2 := pot.same S02
    have tb2 := Tabs.ext tabs S02
    have mv : ∀ {H : Hp} {k : Nat} {z : V} {n u m t : Int}, PotAt H p k → PtAt a.Ratio a.Point H z n u m t → PtAt a.Ratio a.Point (vw p H) z n u m t := fun {H k z n u m t} pt h => by
      obtain ⟨b, dx, v, w, rfl, hb, r, r'⟩ := h
      refine ⟨b, dx, v, w, rfl, vw_at hb (fun z => ?_) (fun _ z => nomatch z), r.vw pt, r'.vw pt⟩
      obtain ⟨_, _, _, f, _⟩ := pt
      rw [z, f] at hb
      cases hb
    have mp2 := mv pot2 mp
    have k02 : Kp p H H2 := Kp.same S02
    clear S1 r1 S2
    -- the values
    refine ⟨(by show 2 ≤ sizeLine; decide), fun t3 f3 => ?_⟩
    refine ⟨(by show 0 ≤ sizeLine; decide), fun l4 f4 s4 => ?_⟩
    refine ⟨_, rfl, _, rfl, p, k, rfl, (pot2.same (same_new f3)).same (same_new f4), (by omega), fun v5 H5 i5 g5 => ?_⟩
    have S3 := same_new (o := .tup [.int 1, .int 2]) f3
    have S4 := same_new (o := .lst []) f4
    have pot4 := (pot2.same S3).same S4
    have k45 : Kp p (upd (upd H2 t3 (.tup [.int 1, .int 2])) l4 (.lst [])) H5 := Kp.go g5
    have k25 : Kp p H2 H5 := (Kp.same (S3.trans S4)).trans k45
    have tb5 := Tabs.go g5 pot4 ((Tabs.ext tb2 S3).ext S4)
    have o3 : OdV a p (upd (upd H2 t3 (.tup [.int 1, .int 2])) l4 (.lst [])) (.ref t3) := .inr ⟨_, .tup (vw_at (S4 _ _ upd_same) (fun z => pot2.has (by rw [← z]; exact f3)) fun _ z => nomatch z) (.cons (.int 1) (.cons (.int 2) .nil)), gdB_ok (by decide +kernel), fun i e => nomatch e⟩
    have o4 : OdV a p (upd (upd H2 t3 (.tup [.int 1, .int 2])) l4 (.lst [])) (.ref l4) := .inr ⟨_, .lst (vw_at upd_same (fun z => (pot2.same S3).has (by rw [← z]; exact f4)) fun _ z => nomatch z) s4 .nil, gdB_ok (by decide +kernel), fun i e => nomatch e⟩
    have o5 : OdV a p H5 v5 := by
      obtain ⟨d, hd, gd⟩ := i5 (fun b => b = p) fun b e => by rw [e]; exact pot4.has
      exact .inr ⟨d, da_strip hd, gd⟩
    replace o3 := o3.kp k45
    replace o4 := o4.kp k45
    have mp5 := mp2.same k25
    have k05 := k02.trans k25
    refine ⟨(by show 7 ≤ sizeLine; decide), fun t6 f6 => ?_⟩
    have S6 := same_new (o := .tup [.bl true, .non, .str "3", .ref t3, .ref l4, .ref x2, v5]) f6
    have t6' : upd H5 t6 (.tup [.bl true, .non, .str "3", .ref t3, .ref l4, .ref x2, v5]) t6 = some (.tup [.bl true, .non, .str "3", .ref t3, .ref l4, .ref x2, v5]) := upd_same
    have n6 : t6 ≠ p := fun z => g5.pot.has (by rw [← z]; exact f6)
    have tb6 := Tabs.ext tb5 S6
    have pt6 := g5.pot.same S6
    have k56 : Kp p H5 (upd H5 t6 (.tup [.bl true, .non, .str "3", .ref t3, .ref l4, .ref x2, v5])) := Kp.same S6
    generalize (upd H5 t6 (.tup [.bl true, .non, .str "3", .ref t3, .ref l4, .ref x2, v5])) = H6 at t6' tb6 pt6 k56 ⊢
    have mp6 := mp5.same k56
    have k06 := k05.trans k56
    have obs : ∀ x ∈ [V.bl true, .non, .str "3", .ref t3, .ref l4, .ref x2, v5], OdV a p H6 x := by
      intro x hx
      simp only [List.mem_cons, List.not_mem_nil, or_false] at hx
      rcases hx with rfl | rfl | rfl | rfl | rfl | rfl | rfl
      · exact .inr ⟨_, .bl true, gdB_ok (by decide +kernel), fun i e => nomatch e⟩
      · exact .inr ⟨_, .non, gdB_ok (by decide +kernel), fun i e => nomatch e⟩
      · exact .inr ⟨_, .str "3", gdB_ok (by decide +kernel), fun i e => nomatch e⟩
      · exact o3.kp k56
      · exact o4.kp k56
      · exact .inl ⟨_, _, _, _, mp6⟩
      · exact o5.kp k56
    refine ⟨t6, rfl, ⟨_, SqT.of t6'⟩, for_it (walk_tup (xs := [V.bl true, .non, .str "3", .ref t3, .ref l4, .ref x2, v5]))
      (fun i σ H' => ∃ s2 s3 s4 s5 s6 s7 s8, σ = [some (.ref p), some (.ref x2), s2, s3, s4, s5, s6, s7, s8] ∧ Kp p H6 H' ∧ Tabs [(Pt, lamP)] H' ∧ PotAt H' p (k + 1)) ⟨none, none, none, none, none, none, none, rfl, Kp.refl _ _, tb6, pt6⟩ ?_ ?_ ?_⟩
    · rintro i σ H' _ ⟨s2, s3, s4, s5, s6, s7, s8, _, kp, _, _⟩
      exact SqT.of (kp.at t6' n6 fun _ z => nomatch z)
    · rintro i x σ H' H'' hi ⟨s2, s3, s4, s5, s6, s7, s8, rfl, kp, tb, pt⟩ ⟨rfl, hx⟩
      have od := (obs x (List.mem_of_getElem? hx)).kp kp
      have odx := OdX.same (vw_le _ _) od
      refine ⟨fun σ' H3 => ∃ s3 s4 s5 s6 s7 s8, σ' = [some (.ref p), some (.ref x2), some x, s3, s4, s5, s6, s7, s8] ∧ Kp p H6 H3 ∧ Tabs [(Pt, lamP)] H3 ∧ PotAt H3 p (k + 1), ?first, ?rest⟩
      case first =>
        rcases od_num T odx with ⟨j, rfl, l1, l2⟩ | ⟨ni, t, b1, b2, b3, ty, k1, k2, k3, e1, e2⟩
        · refine ⟨_, rfl, _, _, rfl, rfl, cpow12, _, rfl, _, _, rfl, rfl, cpow12, _, .type "int", true, false, _, _, rfl, .base (.int j), kit_ty (by decide +kernel), kit_ty (by decide +kernel), .inr ⟨rfl, j, rfl, _, rfl, ?_⟩⟩
          have bj : (decide (-(10 ^ (12 : Int).toNat) ≤ j) && decide (j ≤ 10 ^ (12 : Int).toNat)) = true := by
            rw [Bool.and_eq_true]
            exact ⟨decide_eq_true (by show -(10 ^ 12) ≤ j; omega), decide_eq_true (by show j ≤ 10 ^ 12; omega)⟩
          rw [bj]
          refine iteF ?_
          exact ⟨_, _, _, _, _, _, rfl, kp, tb, pt⟩
        · refine ⟨_, rfl, _, _, rfl, rfl, cpow12, _, rfl, _, _, rfl, rfl, cpow12, _, _, _, _, _, _, rfl, ty, k1, k2, .inl ⟨e1, _, rfl, iteT ?_⟩⟩
          refine s_seq (fst_item (p := p) (k := k + 1) tb pt fun Ha q1 L sa i1 => ?_)
          refine s_seq (add_item (p := p) (k := k + 1) (H0 := H'') (L := L) rfl sa (by show 1 < 100; decide) fun Hb q2 sb stb i2 => ?_)
          refine s_seq (add_item (p := p) (k := k + 1) (H0 := H'') (L := L) rfl sb (by show 2 < 100; decide) fun Hc q3 sc stc i3 => ?_)
          replace i2 := i2.stay stc
          replace i1 := (i1.stay stb).stay stc
          have odc := OdX.same (vw_le _ _) (od.kp sc.kp)
          have mkc := ((mp6.same kp).same sc.kp).same (vw_le _ _)
          obtain ⟨qs, eqs⟩ : ∃ qs, qs = ([q1] ++ [q2]) ++ [q3] := ⟨_, rfl⟩
          have hl := sc.hl
          rw [← eqs] at hl
          have lq : qs.length = 3 := by rw [eqs]; rfl
          have each : ∀ (j : Nat) y, qs[j]? = some y → ∃ f c' D, y = .ref f ∧ D ∈ Ds ∧ Hc f = some (LamO f (lamOf (cxOdd P w K mg base a cA A outer s H E) (LamD.params D) (LamD.body D) (LamD.scope D) c')) ∧
              Hc c' = some (CodeO c' (lamOf (cxOdd P w K mg base a cA A outer s H E) (LamD.params D) (LamD.body D) (LamD.scope D) c').qual) ∧ ∃ u v, [(x, V.int 2), (V.int 2, x), (x, x)][j]? = some (u, v) ∧
              ∀ H', Same Hc H' → Raises a.BadPoint (fun E H Q => LamD.tb D E ((LamD.js D).map (slotAt [some (.ref p), some (.ref x2), some x, some (.ref L), s4, s5, s6, s7, s8])) H Q) H' (TupOf u v) := by
            rw [hDs, eqs]
            intro j y hy
            match j, hy with
            | 0, hy =>
              cases hy
              obtain ⟨f, c', rfl, e3, e4⟩ := i1
              exact ⟨f, c', _, rfl, List.mem_cons_self .., e3, e4, _, _, rfl, fun H' S' => ra1 T (odc.same S') ni⟩
            | 1, hy =>
              cases hy
              obtain ⟨f, c', rfl, e3, e4⟩ := i2
              exact ⟨f, c', _, rfl, List.mem_cons_of_mem _ (List.mem_cons_self ..), e3, e4, _, _, rfl, fun H' S' => ra2 T (odc.same S') ni⟩
            | 2, hy =>
              cases hy
              obtain ⟨f, c', rfl, e3, e4⟩ := i3
              exact ⟨f, c', _, rfl, List.mem_cons_of_mem _ (List.mem_cons_of_mem _ (List.mem_cons_self ..)), e3, e4, _, _, rfl, fun H' S' => ra3 T (odc.same S') ni⟩
            | n + 3, hy => cases hy
          refine ⟨_, rfl, L, rfl, ⟨_, SqL.of hl⟩, fun D hD => ?_⟩
          refine lc_list (xs := qs) (fun i H' => Same Hc H' ∧ ∃ es : List Addr, H' D = some (.lst (es.map V.ref)) ∧ es.length = i ∧ ∀ j e, es[j]? = some e → ∃ u v wv, [(x, V.int 2), (V.int 2, x), (x, x)][j]? = some (u, v) ∧ Caught H' e a.BadPoint wv ∧ TupOf u v H' wv) ⟨same_new hD, [], upd_same, rfl, fun j e h => nomatch (show e ∈ ([] : List Addr) from List.mem_of_getElem? h)⟩ ?_ ?_ ?_
          · rintro i H' hi ⟨S', _⟩
            exact SqL.of (S' _ _ hl)
          · rintro i y H' hy ⟨S', es, d', le, hes⟩
            have hi' : i < 3 := by rw [← lq]; exact (List.getElem?_eq_some_iff.mp hy).1
            obtain ⟨f, c', D', rfl, mD, e3, e4, u, v, huv, ra⟩ := each i y hy
            refine ⟨rfl, ?_⟩
            refine ⟨_, rfl, f, _, _, ⟨D', mD, c', rfl, rfl⟩, rfl, S' _ _ e3, S' _ _ e4, f, rfl, ?_⟩
            refine told_raises (ra _ S') (fun H H' v S h => let ⟨t, e, h⟩ := h; ⟨t, e, S _ _ h⟩) T.x_BadPoint fun H7 e t wv S7 ht ct hw => ?_
            refine ⟨_, _, _, _, rfl, rfl, SqT.of ht, rfl, _, S7 _ _ d', by rw [List.length_map, le, sizeLine_eq]; omega, fun b o e => ?_, es ++ [e], ?_, by rw [List.length_append, le]; rfl, fun j e' hj => ?_⟩
            · rw [upd_ne (ne_of_none e hD)]
              exact S7 _ _ (S' _ _ e)
            · rw [upd_same, List.map_append]
              rfl
            · have dD := S7 _ _ d'
              rcases Nat.lt_or_ge j es.length with lt | ge
              · rw [List.getElem?_append_left lt] at hj
                obtain ⟨u', v', w', g1, g2, g3⟩ := hes j e' hj
                exact ⟨u', v', w', g1, caught_put dD (g2.same S7), tupOf_put dD (tupOf_same S7 g3)⟩
              · have ej : j = es.length := by
                  have := (List.getElem?_eq_some_iff.mp hj).1
                  rw [List.length_append, List.length_singleton] at this
                  omega
                rw [ej, List.getElem?_append_right (Nat.le_refl _), Nat.sub_self] at hj
                cases hj
                rw [ej, le]
                exact ⟨u, v, wv, huv, caught_put dD ct, tupOf_put dD hw⟩
          · rintro H' ⟨S', es, d', le, hes⟩
            rw [lq] at le
            refine ⟨_, rfl, (by show 2 ≤ sizeLine; decide), fun ta fa => ⟨_, rfl, (by show 2 ≤ sizeLine; decide), fun tc fc => ⟨_, rfl, _, rfl, (by show 2 ≤ sizeLine; decide), fun td fd => ⟨(by show 3 ≤ sizeLine; decide), fun l fl sl => ?_⟩⟩⟩⟩
            have Sa := same_new (o := .tup [x, .int 2]) fa
            have Sc := same_new (o := .tup [.int 2, x]) fc
            have Sd := same_new (o := .tup [x, x]) fd
            have Sl := same_new (o := .lst [.ref ta, .ref tc, .ref td]) fl
            have hta := Sl _ _ (Sd _ _ (Sc _ _ (show upd H' ta (.tup [x, .int 2]) ta = _ from upd_same)))
            have htc := Sl _ _ (Sd _ _ (show upd (upd H' ta (.tup [x, .int 2])) tc (.tup [.int 2, x]) tc = _ from upd_same))
            have htd := Sl _ _ (show upd (upd (upd H' ta (.tup [x, .int 2])) tc (.tup [.int 2, x])) td (.tup [x, x]) td = _ from upd_same)
            have hll : upd (upd (upd (upd H' ta (.tup [x, .int 2])) tc (.tup [.int 2, x])) td (.tup [x, x])) l (.lst [.ref ta, .ref tc, .ref td]) l = some (.lst [.ref ta, .ref tc, .ref td]) := upd_same
            have S4 := ((Sa.trans Sc).trans Sd).trans Sl
            generalize upd (upd (upd (upd H' ta (.tup [x, .int 2])) tc (.tup [.int 2, x])) td (.tup [x, x])) l (.lst [.ref ta, .ref tc, .ref td]) = Hd at hta htc htd hll S4 ⊢
            have d4 := S4 _ _ d'
            have dues : ∀ (j : Nat) y, [V.ref ta, .ref tc, .ref td][j]? = some y → ∃ t u v, y = .ref t ∧ [(x, V.int 2), (V.int 2, x), (x, x)][j]? = some (u, v) ∧ Hd t = some (.tup [u, v]) := by
              intro j y hy
              match j, hy with
              | 0, hy => cases hy; exact ⟨_, _, _, rfl, rfl, hta⟩
              | 1, hy => cases hy; exact ⟨_, _, _, rfl, rfl, htc⟩
              | 2, hy => cases hy; exact ⟨_, _, _, rfl, rfl, htd⟩
              | n + 3, hy => cases hy
            refine ⟨_, _, rfl, ?_⟩
            refine ⟨_, rfl, _, rfl, D, l, es.map V.ref, [.ref ta, .ref tc, .ref td], rfl, SqL.of d4, SqL.of hll, ?_⟩
            refine RZ.for_zipL (xs := es.map V.ref) (ys := [.ref ta, .ref tc, .ref td]) (by show (es.map V.ref).length = 3; rw [List.length_map, le]) (fun i σ H => ∃ s6 s7, σ = [some (.ref p), some (.ref x2), some x, some (.ref L), some (.ref D), some (.ref l), s6, s7, s8] ∧ Same Hd H) ⟨_, _, rfl, Same.refl _⟩ ?_ ?_ ?_
            · rintro i σ H ⟨s6, s7, rfl, Sh⟩
              exact ⟨SqL.of (Sh _ _ d4), SqL.of (Sh _ _ hll)⟩
            · rintro i y z TT σ H hy hz ⟨s6, s7, rfl, Sh⟩ hTT
              obtain ⟨e, he, rfl⟩ : ∃ e, es[i]? = some e ∧ V.ref e = y := by
                rw [List.getElem?_map] at hy
                cases h : es[i]? with
                | none => rw [h] at hy; cases hy
                | some e => rw [h] at hy; exact ⟨e, rfl, Option.some.inj hy⟩
              obtain ⟨u, v, wv, g1, ct, tw, rfl, htw⟩ := hes i e he
              obtain ⟨t, u', v', rfl, g2, ht⟩ := dues i z hz
              rw [g1] at g2
              cases g2
              have ST := same_new (o := .tup [.ref e, .ref t]) hTT
              have S5 := (S4.trans Sh).trans ST
              refine ⟨TT, _, rfl, SqT.of upd_same, rfl, _, _, rfl, _, _, rfl, rfl, ?_⟩
              refine ⟨_, rfl, e, a.BadPoint, .ref tw, _, _, true, rfl, .own _, T.c_BadPoint, ct.same S5, T.t_BadPoint, true, rfl, iteF ?_⟩
              refine ⟨_, rfl, e, a.BadPoint, .ref tw, rfl, T.c_BadPoint, ct.same S5, _, rfl, ?_⟩
              have both : DOne u u (upd H TT (.tup [.ref e, .ref t])) ∧ DOne v v (upd H TT (.tup [.ref e, .ref t])) := by
                have ox : DOne x x (upd H TT (.tup [.ref e, .ref t])) := od_one odx
                have o2 : DOne (.int 2) (.int 2) (upd H TT (.tup [.ref e, .ref t])) := .inl ⟨rfl, rfl, by simp [eqV]⟩
                match i, g1 with
                | 0, g1 => cases g1; exact ⟨ox, o2⟩
                | 1, g1 => cases g1; exact ⟨o2, ox⟩
                | 2, g1 => cases g1; exact ⟨ox, ox⟩
                | n + 3, g1 => cases g1
              refine ⟨⟨tw, t, [u, v], [u, v], rfl, rfl, SqT.of (S5 _ _ htw), SqT.of (ST _ _ (Sh _ _ ht)), .cons both.1 (.cons both.2 .nil)⟩, fun H9 X9 => ⟨_, rfl, iteF ?_⟩⟩
              exact ⟨_, _, rfl, fun b o e => X9 b o (ST _ _ (Sh _ _ e))⟩
            · rintro σ H ⟨s6, s7, rfl, Sh⟩
              have tb8 := Tabs.ext sc.tb (S'.trans (S4.trans Sh))
              refine ⟨tb8, fun f c' H8 eN T8 nn nf hf hc => ⟨f, _, _, ⟨c', rfl, rfl⟩, rfl, hf, hc, f, rfl, ?_⟩⟩
              have k8 : Kp p Hc H8 := (Kp.same (S'.trans (S4.trans Sh))).trans (Kp.ext eN)
              have mk8 : PtAt a.Ratio a.Point H8 (.ref x2) _ _ _ _ := (((mp6.same kp).same sc.kp).same k8).same (vw_le _ _)
              have od8 := OdX.same (vw_le _ _) ((od.kp sc.kp).kp k8)
              refine told_raises (ra4 T mk8 od8 ni) (fun H H' v S h => h) T.x_BadNumber fun H9 e t wv S9 ht ct hw => ?_
              refine ⟨_, _, _, _, rfl, rfl, SqT.of ht, rfl, e, a.BadNumber, wv, _, _, true, rfl, .own _, T.c_BadNumber, ct, T.t_BadNumber, true, rfl, iteF ?_⟩
              exact ⟨_, _, _, _, _, _, rfl, (kp.trans sc.kp).trans (k8.trans (Kp.same S9)), Tabs.ext T8 S9, ((sc.pt.same (S'.trans (S4.trans Sh))).ext eN).same S9⟩
      case rest =>
        rintro σ' H3 ⟨t3, t4, t5, t6_, t7, t8, rfl, kp, tb, pt⟩
        have od3 := (obs x (List.mem_of_getElem? hx)).kp kp
        rcases od3 with ⟨n, u, m, t, pp⟩ | ⟨d, hd, gd, _⟩
        · refine ⟨_, rfl, _, _, _, _, true, rfl, .own _, ptTy T (pp.same (vw_le _ _)), T.riP.ks, true, rfl, iteF ?_⟩
          exact ⟨_, _, _, _, _, _, _, rfl, kp, tb, pt⟩
        · obtain ⟨ty, ty1, ty2⟩ := da_notP T (hd.same (vw_le _ _))
          refine ⟨_, rfl, _, _, _, _, false, rfl, .own _, ty1, ty2, false, rfl, iteT ?_⟩
          refine s_seq (fst_item (p := p) (k := k + 1) tb pt fun Ha q1 L sa i1 => ?_)
          refine s_seq (add_item (p := p) (k := k + 1) (H0 := H3) (L := L) rfl sa (by show 1 < 100; decide) fun Hc q2 sc stc i2 => ?_)
          replace i1 := i1.stay stc
          have dat : ∀ H', Same Hc H' → Da H' x d := fun H' S' => ((hd.same sc.kp).same (vw_le _ _)).same S'
          have mkc := ((mp6.same kp).same sc.kp).same (vw_le _ _)
          obtain ⟨qs, eqs⟩ : ∃ qs, qs = [q1] ++ [q2] := ⟨_, rfl⟩
          have hl := sc.hl
          rw [← eqs] at hl
          have lq : qs.length = 2 := by rw [eqs]; rfl
          have each : ∀ (j : Nat) y, qs[j]? = some y → ∃ f c' D, y = .ref f ∧ D ∈ Ds ∧ Hc f = some (LamO f (lamOf (cxOdd P w K mg base a cA A outer s H E) (LamD.params D) (LamD.body D) (LamD.scope D) c')) ∧
              Hc c' = some (CodeO c' (lamOf (cxOdd P w K mg base a cA A outer s H E) (LamD.params D) (LamD.body D) (LamD.scope D) c').qual) ∧
              ∀ H', Same Hc H' → Raises a.BadPoint (fun E H Q => LamD.tb D E ((LamD.js D).map (slotAt [some (.ref p), some (.ref x2), some x, some (.ref L), t4, t5, t6_, t7, t8])) H Q) H' (fun _ v => v = x) := by
            rw [hDs, eqs]
            intro j y hy
            match j, hy with
            | 0, hy =>
              cases hy
              obtain ⟨f, c', rfl, e3, e4⟩ := i1
              exact ⟨f, c', _, rfl, List.mem_cons_of_mem _ (List.mem_cons_of_mem _ (List.mem_cons_of_mem _ (List.mem_cons_self ..))), e3, e4, fun H' S' => ra5 T (mkc.same S') (dat H' S') fun H5 S5 => da_notP T ((dat H' S').same S5)⟩
            | 1, hy =>
              cases hy
              obtain ⟨f, c', rfl, e3, e4⟩ := i2
              exact ⟨f, c', _, rfl, List.mem_cons_of_mem _ (List.mem_cons_of_mem _ (List.mem_cons_of_mem _ (List.mem_cons_of_mem _ (List.mem_cons_self ..)))), e3, e4, fun H' S' => ra6 T (mkc.same S') (dat H' S') fun H5 S5 => da_notP T ((dat H' S').same S5)⟩
            | n + 2, hy => cases hy
          refine s_seq ?_
          refine ⟨_, rfl, L, rfl, ⟨_, SqL.of hl⟩, fun D hD => ?_⟩
          refine lc_list (xs := qs) (fun i H' => Same Hc H' ∧ ∃ es : List Addr, H' D = some (.lst (es.map V.ref)) ∧ es.length = i ∧ ∀ e ∈ es, Caught H' e a.BadPoint x) ⟨same_new hD, [], upd_same, rfl, fun e h => nomatch h⟩ ?_ ?_ ?_
          · rintro i H' hi ⟨S', _⟩
            exact SqL.of (S' _ _ hl)
          · rintro i y H' hy ⟨S', es, d', le, hes⟩
            have hi' : i < 2 := by rw [← lq]; exact (List.getElem?_eq_some_iff.mp hy).1
            obtain ⟨f, c', D', rfl, mD, e3, e4, ra⟩ := each i y hy
            refine ⟨rfl, ?_⟩
            refine ⟨_, rfl, f, _, _, ⟨D', mD, c', rfl, rfl⟩, rfl, S' _ _ e3, S' _ _ e4, f, rfl, ?_⟩
            refine told_raises (ra _ S') (fun H H' v S h => h) T.x_BadPoint fun H7 e t wv S7 ht ct hw => ?_
            refine ⟨_, _, _, _, rfl, rfl, SqT.of ht, rfl, _, S7 _ _ d', by rw [List.length_map, le, sizeLine_eq]; omega, fun b o e => ?_, es ++ [e], ?_, by rw [List.length_append, le]; rfl, fun e' he' => ?_⟩
            · rw [upd_ne (ne_of_none e hD)]
              exact S7 _ _ (S' _ _ e)
            · rw [upd_same, List.map_append]
              rfl
            · rcases List.mem_append.mp he' with h | h
              · exact caught_put (S7 _ _ d') ((hes e' h).same S7)
              · rw [List.mem_singleton.mp h, ← hw]
                exact caught_put (S7 _ _ d') ct
          · rintro H' ⟨S', es, d', le, hes⟩
            rw [lq] at le
            refine ⟨_, rfl, D, rfl, ⟨_, SqL.of d'⟩, fun D2 hD2 => ?_⟩
            refine lc_list (xs := es.map V.ref) (fun i H5 => Same H' H5 ∧ H5 D2 = some (.lst ((List.replicate i true).map V.bl))) ⟨same_new hD2, upd_same⟩ ?_ ?_ ?_
            · rintro i H5 hi ⟨S5, _⟩
              exact SqL.of (S5 _ _ d')
            · rintro i y H5 hy ⟨S5, d5⟩
              have hi' : i < 2 := by
                have := (List.getElem?_eq_some_iff.mp hy).1
                rw [List.length_map, le] at this
                exact this
              obtain ⟨e, he, rfl⟩ := List.mem_map.mp (List.mem_of_getElem? hy)
              have ct := (hes e he).same S5
              have dx := dat _ (S'.trans S5)
              refine ⟨rfl, ?_⟩
              refine ⟨_, rfl, e, a.BadPoint, x, _, _, true, rfl, .own _, T.c_BadPoint, ct, T.t_BadPoint, true, rfl, iteT ?_⟩
              refine ⟨_, rfl, e, a.BadPoint, x, rfl, T.c_BadPoint, ct, x, d, 60, 4, rfl, dx, gd, ⟨by decide, by decide⟩, ?_⟩
              refine ⟨_, rfl, x, d, 60, 4, rfl, dx, gd, ⟨by decide, by decide⟩, rfl, ?_⟩
              rw [decide_eq_true rfl]
              refine ⟨_, d5, by rw [List.length_map, List.length_replicate, sizeLine_eq]; omega, fun b o e => ?_, ?_⟩
              · rw [upd_ne (ne_of_none e hD2)]
                exact S5 _ _ e
              · rw [upd_same, List.replicate_succ', List.map_append]
                rfl
            · rintro H5 ⟨S5, d5⟩
              rw [List.length_map, le] at d5
              refine ⟨D2, List.replicate 2 true, rfl, SqL.of d5, _, rfl, iteF ?_⟩
              have Sf := S'.trans S5
              exact ⟨_, _, _, _, _, _, _, rfl, kp.trans (sc.kp.trans (Kp.same Sf)), Tabs.ext sc.tb Sf, sc.pt.same Sf⟩
    · rintro σ H' ⟨s2, s3, s4, s5, s6, s7, s8, rfl, kp, tb, pt⟩
      have mk := (mp6.same kp).same (vw_le _ _)
      refine ⟨tb, fun f c' H7 eN T7 nn nf hf hc => ⟨f, _, _, ⟨c', rfl, rfl⟩, rfl, hf, hc, f, rfl, ?_⟩⟩
      have mk7 : PtAt a.Ratio a.Point H7 (.ref x2) _ _ _ _ := ((mp6.same kp).same (Kp.ext eN)).same (vw_le _ _)
      refine told_raises (ra7 T mk7) (fun H H' v S h => h) T.x_BadNumber fun H8 e t wv S8 ht ct hw => ?_
      refine ⟨_, _, _, _, rfl, rfl, SqT.of ht, rfl, ?_⟩
      refine ⟨_, rfl, e, a.BadNumber, wv, _, _, true, rfl, .own _, T.c_BadNumber, ct, T.t_BadNumber, true, rfl, iteT ?_⟩
      subst hw
      refine ⟨_, rfl, e, a.BadNumber, _, rfl, T.c_BadNumber, ct, _, .str "1", 60, 4, rfl, .str "1", gdB_ok (by decide +kernel), ⟨by decide, by decide⟩, ?_⟩
      refine ⟨_, .str "1", 60, 4, rfl, .str "1", gdB_ok (by decide +kernel), ⟨by decide, by decide⟩, rfl, ?_⟩
      rw [decide_eq_true rfl]
      exact q H8 (Tabs.ext T7 S8) ((k06.trans kp).trans ((Kp.ext eN).trans (Kp.same S8))) ((pt.ext eN).same S8)
end
end My

namespace My
open PySem PySem.Spec PyProof.Rows L2 G SX NumText
abbrev s__law_made_right : Stmt := topS 41
theorem sc__law_made_right : FnScope ["_law_pot_here", "_law_one", "_law_other", "_law_made", "_law_its", "_law_share", "_law_plus", "_law_lower", "_law_way", "_law_come", "_law_turn", "_law_left", "_law_right"] ["_law_pot_here"] (defScope s__law_made_right) := ⟨rfl, rfl, rfl, by decide +kernel, rfl, by decide +kernel, by decide +kernel⟩

/-- a drawn place -/
def Dt (H : Hp) (v : V) : Prop := ∃ n u m t, DotAt H v n u m t ∧ Lo n u ∧ Lo m t
theorem PairAt.noL {H H' : Hp} {v : V} {n u : Int} (S : NoL H H') (h : PairAt H v n u) : PairAt H' v n u := let ⟨p, e, h⟩ := h; ⟨p, e, S _ _ h fun _ z => nomatch z⟩
theorem DotAt.noL {H H' : Hp} {v : V} {n u m t : Int} (S : NoL H H') (h : DotAt H v n u m t) : DotAt H' v n u m t := let ⟨b, x, y, e, h1, h2, h3⟩ := h; ⟨b, x, y, e, S _ _ h1 (fun _ z => nomatch z), h2.noL S, h3.noL S⟩
theorem Dt.noL {H H' : Hp} {v : V} (S : NoL H H') (h : Dt H v) : Dt H' v := let ⟨n, u, m, t, d, l⟩ := h; ⟨n, u, m, t, d.noL S, l⟩
theorem wo_noL {p D : Addr} {H : Hp} {xs ys : List V} (h : H D = some (.lst xs)) : NoL (wo p H) (wo p (upd H D (.lst ys))) := fun b o e n => by
  by_cases c : b = p
  · rw [c, wo_same] at e
    cases e
  · rw [wo_ne c] at e ⊢
    rw [upd_ne (lst_ne h e n)]
    exact e
theorem tup_wo {p b : Addr} {k : Nat} {H : Hp} {xs : List V} (pt : PotAt H p k) (h : H b = some (.tup xs)) : wo p H b = some (.tup xs) := by
  rw [wo_ne fun z => ?_]
  · exact h
  · obtain ⟨_, _, _, f, _⟩ := pt
    rw [z, f] at h
    cases h
theorem PairAt.wo {p : Addr} {k : Nat} {H : Hp} {v : V} {n u : Int} (pt : PotAt H p k) (h : PairAt H v n u) : PairAt (wo p H) v n u := let ⟨b, e, h⟩ := h; ⟨b, e, tup_wo pt h⟩
theorem DotAt.wo {p : Addr} {k : Nat} {H : Hp} {v : V} {n u m t : Int} (pt : PotAt H p k) (h : DotAt H v n u m t) : DotAt (wo p H) v n u m t := let ⟨b, x, y, e, h1, h2, h3⟩ := h; ⟨b, x, y, e, tup_wo pt h1, h2.wo pt, h3.wo pt⟩
theorem ins_wo {p b C d : Addr} {k : Nat} {H : Hp} {fs : List (Str × V)} (pt : PotAt H p k) (h : H b = some (.ins C d fs)) : wo p H b = some (.ins C d fs) := by
  rw [wo_ne fun z => ?_]
  · exact h
  · obtain ⟨_, _, _, f, _⟩ := pt
    rw [z, f] at h
    cases h
theorem RatAt.wo {C p : Addr} {k : Nat} {H : Hp} {v : V} {n u : Int} (pt : PotAt H p k) (h : RatAt C H v n u) : RatAt C (wo p H) v n u := let ⟨b, d, e, h⟩ := h; ⟨b, d, e, ins_wo pt h⟩
theorem PtAt.wo {C CP p : Addr} {k : Nat} {H : Hp} {z : V} {n u m t : Int} (pt : PotAt H p k) (h : PtAt C CP H z n u m t) : PtAt C CP (wo p H) z n u m t := let ⟨b, dx, v, w, e, h1, h2, h3⟩ := h; ⟨b, dx, v, w, e, ins_wo pt h1, h2.wo pt, h3.wo pt⟩
theorem Go.wo {p : Addr} {n : Nat} {H H' : Hp} (g : Go p n H H') : Same (wo p H) (wo p H') := g.keep
theorem wo_mono {p : Addr} {H H' : Hp} (S : Same H H') : Same (wo p H) (wo p H') := mask_mono S
/-- where the two places and the share stand, off the pot -/
structure Two (C CP p : Addr) (y1 y2 v3 v4 v5 : V) (n1 u1 m1 t1 n2 u2 m2 t2 n5 u5 : Int) (H : Hp) : Prop where
  d1 : DotAt (wo p H) y1 n1 u1 m1 t1
  d2 : DotAt (wo p H) y2 n2 u2 m2 t2
  m : PtAt C CP (wo p H) v3 n1 u1 m1 t1
  i : PtAt C CP (wo p H) v4 n2 u2 m2 t2
  s : PairAt (wo p H) v5 n5 u5
theorem Two.same {C CP p : Addr} {y1 y2 v3 v4 v5 : V} {n1 u1 m1 t1 n2 u2 m2 t2 n5 u5 : Int} {H H' : Hp} (S : Same (wo p H) (wo p H')) (h : Two C CP p y1 y2 v3 v4 v5 n1 u1 m1 t1 n2 u2 m2 t2 n5 u5 H) : Two C CP p y1 y2 v3 v4 v5 n1 u1 m1 t1 n2 u2 m2 t2 n5 u5 H' :=
  ⟨h.d1.same S, h.d2.same S, h.m.same S, h.i.same S, h.s.same S⟩
theorem Lo.n64 {n u : Int} (h : Lo n u) : n.natAbs < 10 ^ 64 := Nat.lt_of_le_of_lt h.num (by decide +kernel)
theorem Lo.u64 {n u : Int} (h : Lo n u) : u.natAbs < 10 ^ 64 := Nat.lt_of_le_of_lt h.und (by decide +kernel)
theorem Lo.nm {n u : Int} (h : Lo n u) : Mid n := by have := h.n64; exact this
theorem Lo.um {n u : Int} (h : Lo n u) : Mid u := by have := h.u64; exact this
theorem eqv_dot (n u m t n' u' m' t' : Int) : PyData.eqv (.tuple [.tuple [.int n, .int u], .tuple [.int m, .int t]]) (.tuple [.tuple [.int n', .int u'], .tuple [.int m', .int t']]) = decide (n = n' ∧ u = u' ∧ m = m' ∧ t = t') := by
  show ((((n == n') && ((u == u') && true))) && ((((m == m') && ((t == t') && true))) && true)) = _
  by_cases h1 : n = n' <;> by_cases h2 : u = u' <;> by_cases h3 : m = m' <;> by_cases h4 : t = t' <;> simp [h1, h2, h3, h4]
theorem dot_dp {K : PySem.W.Frag} {H : Hp} {v : V} {n u m t : Int} (h : DotAt H v n u m t) : Dp K H v (.tuple [.tuple [.int n, .int u], .tuple [.int m, .int t]]) := by
  obtain ⟨b, x, y, rfl, hb, ⟨c, rfl, hc⟩, ⟨d, rfl, hd⟩⟩ := h
  exact .tup (SqT.of hb) (.cons (.tup (SqT.of hc) (.cons (.int _) (.cons (.int _) .nil))) (.cons (.tup (SqT.of hd) (.cons (.int _) (.cons (.int _) .nil))) .nil))
theorem sqt_same {K : PySem.W.Frag} {H H' : Hp} {a : Addr} {xs : List V} (e : Same H H') (h : SqT K H a xs) : SqT K H' a xs := by
  rcases h with (h | ⟨o, h⟩) | h
  · exact .inl (.inl (e _ _ h))
  · exact .inl (.inr ⟨o, e _ _ h⟩)
  · exact .inr h
theorem sq_same {K : PySem.W.Frag} {k : SqKind} {H H' : Hp} {a : Addr} {xs : List V} (e : Same H H') (h : SqOf K k H a xs) : SqOf K k H' a xs := by
  cases k
  · exact e.seq h
  · exact sqt_same e h
/-- two pairs beside two pairs: a new list of two pairs -/
theorem lc_zip2 {K : PySem.W.Frag} {k1 k2 : SqKind} {b1 b2 D : Addr} {x x' y y' : V} {N U : Nat → Int} {te : TE} {vs : List Nat} {σ : L2.St} {i1 i2 : Nat} {H1 : Hp} {Qd : Hp → Prop} (hD : H1 D = none) (h1 : SqOf K k1 H1 b1 [x, x']) (h2 : SqOf K k2 H1 b2 [y, y'])
    (hw : ∀ u v, wipe (((wipe σ vs).set i1 (some u)).set i2 (some v)) vs = wipe σ vs)
    (he : ∀ j u v H' (Q : VK), [x, x'][j]? = some u → [y, y'][j]? = some v → Same H1 H' → (∀ p H'', Same H' H'' → PairAt H'' (.ref p) (N j) (U j) → Q (.ref p) H'') → te (((wipe σ vs).set i1 (some u)).set i2 (some v)) H' Q)
    (hd : ∀ r0 r1 H', Same H1 H' → H' D = some (.lst [r0, r1]) → PairAt H' r0 (N 0) (U 0) → PairAt H' r1 (N 1) (U 1) → Qd H') :
    ∃ W : Nat → Nat → Hp → Prop, (∃ m, W 0 m (upd H1 D (.lst []))) ∧ ∀ i m H, W i m H →
      ((ItM K k1 k2 b1 b2).stop i H ∧ Qd H) ∨ ((ItM K k1 k2 b1 b2).go i H ∧ ∃ Nx : Hp → Prop, (∀ H', Nx H' → ∃ m', m' < m ∧ W (i + 1) m' H') ∧ ∀ v H', (ItM K k1 k2 b1 b2).yld i H v H' → gTup K 2 (gCons (gName i1) (gCons (gName i2) gNil)) v (wipe σ vs) H' fun σ2 H2 => wipe σ2 vs = wipe σ vs ∧ tYes σ2 H2 fun b H3 =>
        if b = true then te σ2 H3 fun y H4 => ∃ acc, H4 D = some (.lst acc) ∧ acc.length < sizeLine ∧ Nx (upd H4 D (.lst (acc ++ [y]))) else Nx H3) := by
  refine lc_it (walk_m (K := K) (k1 := k1) (k2 := k2) (a := b1) (b := b2) (xs := [x, x']) (ys := [y, y']) (n := 2) rfl) (fun i H' => Same H1 H' ∧ ∃ ys, H' D = some (.lst ys) ∧ ys.length = i ∧ ∀ j r, ys[j]? = some r → PairAt H' r (N j) (U j)) ⟨same_new hD, [], upd_same, rfl, fun j r z => nomatch z⟩ (fun i H _ p => ⟨sq_same p.1 h1, sq_same p.1 h2⟩) ?_ ?_
  · rintro i v H H' hi ⟨S, ys, dy, ly, al⟩ ⟨T, u, w, rfl, hT, rfl, e1, e2⟩
    have ST := same_new (o := .tup [u, w]) hT
    refine ⟨T, _, rfl, SqT.of upd_same, rfl, _, _, rfl, _, _, rfl, rfl, hw u w, ?_⟩
    unfold tYes
    refine iteT ?_
    refine he i u w _ _ e1 e2 (S.trans ST) fun p H2 S2 pa => ?_
    have d2 := S2 _ _ (ST _ _ dy)
    have nl := noL_upd (ys := ys ++ [.ref p]) d2
    refine ⟨ys, d2, by rw [ly, sizeLine_eq]; omega, fun b o e => ?_, ys ++ [.ref p], upd_same, by rw [List.length_append, ly]; rfl, fun j r hj => ?_⟩
    · rw [upd_ne (ne_of_none e hD)]
      exact S2 _ _ (ST _ _ (S _ _ e))
    · rcases Nat.lt_or_ge j ys.length with lt | ge
      · rw [List.getElem?_append_left lt] at hj
        exact ((al j r hj).same (ST.trans S2)).noL nl
      · have ej : j = ys.length := by
          have := (List.getElem?_eq_some_iff.mp hj).1
          rw [List.length_append, List.length_singleton] at this
          omega
        rw [ej, List.getElem?_append_right (Nat.le_refl _), Nat.sub_self] at hj
        cases hj
        rw [ej, ly]
        exact pa.noL nl
  · rintro H ⟨S, ys, dy, ly, al⟩
    match ys, ly with
    | [r0, r1], _ => exact hd r0 r1 H S dy (al 0 r0 rfl) (al 1 r1 rfl)
/-- two pairs and two pairs, each with the law's own sum -/
theorem zip_with {K : PySem.W.Frag} {k1 k2 : SqKind} {b1 b2 D : Addr} {x x' y y' : V} {te3 : TE} {vs : List Nat} {σ : L2.St} {H1 : Hp} {Qd : Hp → Prop} {n u m t n' u' m' t' s r : Int} (hD : H1 D = none) (h1 : SqOf K k1 H1 b1 [x, x']) (h2 : SqOf K k2 H1 b2 [y, y'])
    (hw : ∀ u v, wipe (((wipe σ vs).set 11 (some u)).set 12 (some v)) vs = wipe σ vs) (len : 13 ≤ (wipe σ vs).length)
    (px : PairAt H1 x n u) (px' : PairAt H1 x' m t) (py : PairAt H1 y n' u') (py' : PairAt H1 y' m' t')
    (h3 : ∀ u v H' (Q : VK), Same H1 H' → (∀ w H'', Same H' H'' → PairAt H'' w s r → Q w H'') → te3 (((wipe σ vs).set 11 (some u)).set 12 (some v)) H' Q)
    (z : u ≠ 0 ∧ t ≠ 0 ∧ u' ≠ 0 ∧ t' ≠ 0 ∧ r ≠ 0) (bd : Mi n ∧ Mi u ∧ Mi m ∧ Mi t ∧ Mi n' ∧ Mi u' ∧ Mi m' ∧ Mi t' ∧ Mi s ∧ Mi r)
    (hd : ∀ r0 r1 H', Same H1 H' → H' D = some (.lst [r0, r1]) → PairAt H' r0 (rNum (n * u' * r + n' * s * u) (u * u' * r)) (rUnd (n * u' * r + n' * s * u) (u * u' * r)) → PairAt H' r1 (rNum (m * t' * r + m' * s * t) (t * t' * r)) (rUnd (m * t' * r + m' * s * t) (t * t' * r)) → Qd H') :
    ∃ W : Nat → Nat → Hp → Prop, (∃ m, W 0 m (upd H1 D (.lst []))) ∧ ∀ i m H, W i m H →
      ((ItM K k1 k2 b1 b2).stop i H ∧ Qd H) ∨ ((ItM K k1 k2 b1 b2).go i H ∧ ∃ Nx : Hp → Prop, (∀ H', Nx H' → ∃ m', m' < m ∧ W (i + 1) m' H') ∧ ∀ v H', (ItM K k1 k2 b1 b2).yld i H v H' → gTup K 2 (gCons (gName 11) (gCons (gName 12) gNil)) v (wipe σ vs) H' fun σ2 H2 => wipe σ2 vs = wipe σ vs ∧ tYes σ2 H2 fun b H3 =>
        if b = true then tCall spWith [] E0 (tCons (tVar 11) (tCons (tVar 12) (tCons te3 tNil))) σ2 H3 fun y H4 => ∃ acc, H4 D = some (.lst acc) ∧ acc.length < sizeLine ∧ Nx (upd H4 D (.lst (acc ++ [y]))) else Nx H3) := by
  obtain ⟨z1, z2, z3, z4, z5⟩ := z
  obtain ⟨c1, c2, c3, c4, c5, c6, c7, c8, c9, c10⟩ := bd
  refine lc_zip2 (N := fun j => match j with | 0 => rNum (n * u' * r + n' * s * u) (u * u' * r) | _ + 1 => rNum (m * t' * r + m' * s * t) (t * t' * r)) (U := fun j => match j with | 0 => rUnd (n * u' * r + n' * s * u) (u * u' * r) | _ + 1 => rUnd (m * t' * r + m' * s * t) (t * t' * r)) hD h1 h2 hw (fun j p q H' Q hp hq S k => ?_) hd
  have g1 : (((wipe σ vs).set 11 (some p)).set 12 (some q))[11]? = some (some p) := by
    rw [List.getElem?_set_ne (by decide), List.getElem?_set_self (by omega)]
  have g2 : (((wipe σ vs).set 11 (some p)).set 12 (some q))[12]? = some (some q) := by
    rw [List.getElem?_set_self (by rw [List.length_set]; omega)]
  refine ⟨_, g1, _, g2, h3 p q H' _ S fun w H2 S2 pw => ?_⟩
  have S12 := S.trans S2
  match j, hp, hq with
  | 0, hp, hq =>
    cases hp
    cases hq
    exact ⟨_, _, _, n, u, n', u', s, r, rfl, px.same S12, py.same S12, pw, z1, z3, z5, c1, c2, c5, c6, c9, c10, fun p' H3 _ S3 pa => k p' H3 (S2.trans S3) pa⟩
  | 1, hp, hq =>
    cases hp
    cases hq
    exact ⟨_, _, _, m, t, m', t', s, r, rfl, px'.same S12, py'.same S12, pw, z2, z4, z5, c3, c4, c7, c8, c9, c10, fun p' H3 _ S3 pa => k p' H3 (S2.trans S3) pa⟩
/-- a list of two pairs, off the pot -/
def LsP (p : Addr) (H : Hp) (D : Addr) (n u m t : Int) : Prop := ∃ q0 q1, wo p H D = some (.lst [q0, q1]) ∧ PairAt (wo p H) q0 n u ∧ PairAt (wo p H) q1 m t
theorem LsP.same {p D : Addr} {H H' : Hp} {n u m t : Int} (S : Same (wo p H) (wo p H')) (h : LsP p H D n u m t) : LsP p H' D n u m t := let ⟨q0, q1, h1, h2, h3⟩ := h; ⟨q0, q1, S _ _ h1, h2.same S, h3.same S⟩
theorem LsP.mk {p D : Addr} {k : Nat} {H H1 : Hp} {q0 q1 : V} {n u m t : Int} (pt : PotAt H p k) (hD : H1 D = none) (pt1 : PotAt H1 p k) (h : H D = some (.lst [q0, q1])) (h1 : PairAt H q0 n u) (h2 : PairAt H q1 m t) : LsP p H D n u m t :=
  ⟨q0, q1, by rw [wo_ne fun z => pt1.has (by rw [← z]; exact hD)]; exact h, h1.wo pt, h2.wo pt⟩
theorem LsP.get {p D : Addr} {H : Hp} {n u m t : Int} (h : LsP p H D n u m t) : ∃ q0 q1, H D = some (.lst [q0, q1]) ∧ PairAt H q0 n u ∧ PairAt H q1 m t := let ⟨q0, q1, h1, h2, h3⟩ := h; ⟨q0, q1, wo_le _ _ _ _ h1, h2.same (wo_le _ _), h3.same (wo_le _ _)⟩
theorem mi_n {n u : Int} (h : Lo n u) : Mi n := by have := h.num; show n.natAbs ≤ 10 ^ 10; omega
theorem mi_u {n u : Int} (h : Lo n u) : Mi u := by have := h.und; show u.natAbs ≤ 10 ^ 10; omega
theorem lo_ne {n u : Int} (h : Lo n u) : u ≠ 0 := by have := h.red.pos; omega
theorem way_ne {n u n' u' : Int} (l : Lo n u) (l' : Lo n' u') : rUnd (n' * u * 1 + n * -1 * u') (u' * u * 1) ≠ 0 := by
  have z : u' * u * 1 ≠ 0 := Int.mul_ne_zero (Int.mul_ne_zero (lo_ne l') (lo_ne l)) (by decide)
  have := (red_of (n := n' * u * 1 + n * -1 * u') z).pos
  omega
theorem way_mi {n u n' u' : Int} (l : Lo n u) (l' : Lo n' u') : Mi (rNum (n' * u * 1 + n * -1 * u') (u' * u * 1)) ∧ Mi (rUnd (n' * u * 1 + n * -1 * u') (u' * u * 1)) := by
  have z : u' * u * 1 ≠ 0 := Int.mul_ne_zero (Int.mul_ne_zero (lo_ne l') (lo_ne l)) (by decide)
  have e1 := num_le (n := n' * u * 1 + n * -1 * u') z
  have e2 := und_le (n := n' * u * 1 + n * -1 * u') z
  have b1 : (n' * u).natAbs ≤ 10 ^ 6 * 10 ^ 3 := absmul l'.num l.und
  have b2 : (n * u').natAbs ≤ 10 ^ 6 * 10 ^ 3 := absmul l.num l'.und
  have b3 : (u' * u).natAbs ≤ 10 ^ 3 * 10 ^ 3 := absmul l'.und l.und
  have c1 : n' * u * 1 + n * -1 * u' = n' * u - n * u' := by grind
  have c2 : u' * u * 1 = u' * u := Int.mul_one _
  rw [c1, c2] at e1 e2
  rw [c1, c2]
  exact ⟨by show Int.natAbs _ ≤ 10 ^ 10; omega, by show Int.natAbs _ ≤ 10 ^ 10; omega⟩
theorem mid_with {n u n' u' s r : Int} (c1 : Mi n) (c2 : Mi u) (c3 : Mi n') (c4 : Mi u') (c5 : Mi s) (c6 : Mi r) (z1 : u ≠ 0) (z2 : u' ≠ 0) (z3 : r ≠ 0) : Mid (rNum (n * u' * r + n' * s * u) (u * u' * r)) ∧ Mid (rUnd (n * u' * r + n' * s * u) (u * u' * r)) := by
  have z : u * u' * r ≠ 0 := Int.mul_ne_zero (Int.mul_ne_zero z1 z2) z3
  have e1 := num_le (n := n * u' * r + n' * s * u) z
  have e2 := und_le (n := n * u' * r + n' * s * u) z
  have b1 := absmul (absmul c1 c4) c6
  have b2 := absmul (absmul c3 c5) c2
  have b3 := absmul (absmul c2 c4) c6
  refine ⟨?_, ?_⟩
  · show Int.natAbs _ < 10 ^ 64
    refine Nat.lt_of_le_of_lt e1 (Nat.lt_of_le_of_lt (Int.natAbs_add_le _ _) (Nat.lt_of_le_of_lt (Nat.add_le_add b1 b2) (by decide +kernel)))
  · show Int.natAbs _ < 10 ^ 64
    exact Nat.lt_of_le_of_lt e2 (Nat.lt_of_le_of_lt b3 (by decide +kernel))
theorem add_same (n u n' u' : Int) : rNum (n * u' * 1 + n' * 1 * u) (u * u' * 1) = rNum (fAdd.num n u n' u') (fAdd.und n u n' u') ∧ rUnd (n * u' * 1 + n' * 1 * u) (u * u' * 1) = rUnd (fAdd.num n u n' u') (fAdd.und n u n' u') := by
  have e1 : n * u' * 1 + n' * 1 * u = fAdd.num n u n' u' := by show _ = n * u' + n' * u; grind
  have e2 : u * u' * 1 = fAdd.und n u n' u' := Int.mul_one _
  rw [e1, e2]
  exact ⟨rfl, rfl⟩
theorem sub_same (n u n' u' : Int) : rNum (n * u' * 1 + n' * -1 * u) (u * u' * 1) = rNum (fSub.num n u n' u') (fSub.und n u n' u') ∧ rUnd (n * u' * 1 + n' * -1 * u) (u * u' * 1) = rUnd (fSub.num n u n' u') (fSub.und n u n' u') := by
  have e1 : n * u' * 1 + n' * -1 * u = fSub.num n u n' u' := by show _ = n * u' - n' * u; grind
  have e2 : u * u' * 1 = fSub.und n u n' u' := Int.mul_one _
  rw [e1, e2]
  exact ⟨rfl, rfl⟩
theorem tw_same {n u n' u' s r : Int} (l : Lo n u) (l' : Lo n' u') (l5 : Lo s r) : ∀ A B, A = rNum (n' * u * 1 + n * -1 * u') (u' * u * 1) → B = rUnd (n' * u * 1 + n * -1 * u') (u' * u * 1) →
    rNum (twN n u n' u' s r) (twU u u' r) = rNum (n * B * r + A * s * u) (u * B * r) ∧ rUnd (twN n u n' u' s r) (twU u u' r) = rUnd (n * B * r + A * s * u) (u * B * r) := by
  intro A B hA hB
  have z : u' * u * 1 ≠ 0 := Int.mul_ne_zero (Int.mul_ne_zero (lo_ne l') (lo_ne l)) (by decide)
  have cr : A * (u' * u * 1) = (n' * u * 1 + n * -1 * u') * B := by rw [hA, hB]; exact red_cross z
  have zB : B ≠ 0 := by rw [hB]; exact way_ne l l'
  have zu := lo_ne l
  have zu' := lo_ne l'
  have zr := lo_ne l5
  refine rat_same (Int.mul_ne_zero zu (Int.mul_ne_zero (Int.mul_ne_zero zu' zu) zr)) (Int.mul_ne_zero (Int.mul_ne_zero zu zB) zr) ?_
  unfold twN twU
  have c2 : A * (u' * u) = (n' * u - n * u') * B := by grind
  grind
theorem tw_at {n u n' u' s r a b : Int} (l : Lo n u) (l' : Lo n' u') (zr : r ≠ 0) (ab : Red a b) (h : twN n u n' u' s r * b = a * twU u u' r) : rNum (twN n u n' u' s r) (twU u u' r) = a ∧ rUnd (twN n u n' u' s r) (twU u u' r) = b := by
  have zu := lo_ne l
  have zu' := lo_ne l'
  have w := rat_same (Int.mul_ne_zero zu (Int.mul_ne_zero (Int.mul_ne_zero zu' zu) zr)) (show b ≠ 0 by have := ab.pos; omega) h
  rw [ab.same.1, ab.same.2] at w
  exact w
theorem lo_int {i : Int} (h : i.natAbs ≤ 10 ^ 6) : Lo i 1 := ⟨⟨by decide, by simp⟩, h, by decide⟩
def spMade : Sp := fun vs H Q _ => ∃ (p : Addr) (k : Nat), vs = [.ref p] ∧ PotAt H p k ∧ k ≤ 80000 ∧ ∀ H', Go p (k + 40) H H' → Q (.bl true) H'
section
variable {P : Program} {w : World} {K : PySem.W.Frag} {mg : Str → Option Value} {base : Heap} {a : Ad}
theorem ok__law_made_right {fd : FuncData} (F : Fun K "_law_made_right" "_law_made_right" s__law_made_right a._law_made_right fd) (T : Txt K mg a)
    {fd__law_is_at : FuncData} (G__law_is_at : Fn P w K mg base CX0 3 a._law_is_at fd__law_is_at ["_law_made", "_law_dot"] (spIsAt K a.Ratio a.Point)) (b__law_is_at : Binds K fd__law_is_at ["_law_made", "_law_dot"] [])
    {fd_Point___eq__ : FuncData} (G_Point___eq__ : FnOk P w K mg base CX0 4 a.Point___eq__ fd_Point___eq__ ["self", "other"] (spPEq K a.Ratio a.Point)) (b_Point___eq__ : Binds K fd_Point___eq__ ["self", "other"] [])
    {fd_Point_towards : FuncData} (G_Point_towards : FnOk P w K mg base (L2.CX P w) 8 a.Point_towards fd_Point_towards ["self", "other", "share"] (spTw K a.Ratio a.Point a.BadPoint a.BadNumber)) (b_Point_towards : Binds K fd_Point_towards ["self", "other", "share"] [])
    {fd__law_number : FuncData} (G__law_number : Fn P w K mg base CX0 4 a._law_number fd__law_number ["_law_pot_here", "_law_pair_here"] (spNumber a.Ratio)) (b__law_number : Binds K fd__law_number ["_law_pot_here", "_law_pair_here"] [])
    {fd_Point___sub__ : FuncData} (G_Point___sub__ : FnOk P w K mg base CX0 8 a.Point___sub__ fd_Point___sub__ ["self", "other"] (spPBin a.Ratio a.Point fSub)) (b_Point___sub__ : Binds K fd_Point___sub__ ["self", "other"] [])
    {fd_Point___add__ : FuncData} (G_Point___add__ : FnOk P w K mg base CX0 8 a.Point___add__ fd_Point___add__ ["self", "other"] (spPBin a.Ratio a.Point fAdd)) (b_Point___add__ : Binds K fd_Point___add__ ["self", "other"] [])
    {fd__law_with : FuncData} (G__law_with : Fn P w K mg base CX0 3 a._law_with fd__law_with ["_law_one", "_law_other", "_law_many"] spWith) (b__law_with : Binds K fd__law_with ["_law_one", "_law_other", "_law_many"] [])
    {fd__law_point : FuncData} (G__law_point : Fn P w K mg base CX0 8 a._law_point fd__law_point ["_law_pot_here", "_law_dot"] (spPoint a.Ratio a.Point)) (b__law_point : Binds K fd__law_point ["_law_pot_here", "_law_dot"] [])
    {fd_Point_text : FuncData} (G_Point_text : FnOk P w K mg base CX0 4 a.Point_text fd_Point_text ["self"] (spPText a.Ratio a.Point)) (b_Point_text : Binds K fd_Point_text ["self"] [])
    {fd_Point_of : FuncData} (G_Point_of : FnOk P w K mg base CX0 9 a.Point_of fd_Point_of ["text"] (spPOf a.Ratio a.Point)) (b_Point_of : Binds K fd_Point_of ["text"] [])
    {fd__law_ratio_text : FuncData} (G__law_ratio_text : Fn P w K mg base CX0 1 a._law_ratio_text fd__law_ratio_text ["_law_pair_here"] spLText) (b__law_ratio_text : Binds K fd__law_ratio_text ["_law_pair_here"] [])
    {fd__law_drawn : FuncData} (G__law_drawn : Fn P w K mg base CX0 3 a._law_drawn fd__law_drawn ["_law_pot_here"] spDrawn) (b__law_drawn : Binds K fd__law_drawn ["_law_pot_here"] []) :
    Fn P w K mg base CX0 10 a._law_made_right fd ["_law_pot_here"] spMade := by
  refine ok F sc__law_made_right (fun vs H Q E h => ?len) (fun cdv A outer s H vs Q E hq hr h => ⟨_,
      (pss_cons (ps_asg (pe_lc (own := [("_law_turn", 10)]) (g := gName 10) (tt := tYes) rfl sc__law_made_right.nd (pi_range1 (by rfl) T.n_range (pa_cons pe_int pa_nil)) (blkOk_by (own := [("_law_turn", 10)]) (N := ["_law_pot_here", "_law_one", "_law_other", "_law_made", "_law_its", "_law_share", "_law_plus", "_law_lower", "_law_way", "_law_come", "_law_turn", "_law_left", "_law_right"]) (sc := defScope s__law_made_right) (by decide +kernel)) (fun _ _ _ _ _ => (pg_name (i := 10) sc__law_made_right.nd rfl (Or.inl rfl))) (fun _ _ _ _ _ => pts_nil) (fun _ _ _ _ _ => (pe_tup (pa_cons (pe_fn G__law_drawn hq (hr.mono (by omega)) (by rfl) T.g__law_drawn T.k__law_drawn b__law_drawn .nil pass0 (pa_cons (pv 0) pa_nil)) (pa_cons (pe_fn G__law_drawn hq (hr.mono (by omega)) (by rfl) T.g__law_drawn T.k__law_drawn b__law_drawn .nil pass0 (pa_cons (pv 0) pa_nil)) pa_nil))))) (pg_unl rfl (pgs_cons (pg_name (i := 1) sc__law_made_right.nd rfl (Or.inl rfl)) (pgs_cons (pg_name (i := 2) sc__law_made_right.nd rfl (Or.inl rfl)) pgs_nil))))
      (pss_cons (ps_asg (pe_tup (pa_cons (pe_fn G__law_point hq (hr.mono (by omega)) (by rfl) T.g__law_point T.k__law_point b__law_point .nil pass0 (pa_cons (pv 0) (pa_cons (pv 1) pa_nil))) (pa_cons (pe_fn G__law_point hq (hr.mono (by omega)) (by rfl) T.g__law_point T.k__law_point b__law_point .nil pass0 (pa_cons (pv 0) (pa_cons (pv 2) pa_nil))) (pa_cons (pe_fn G__law_drawn hq (hr.mono (by omega)) (by rfl) T.g__law_drawn T.k__law_drawn b__law_drawn .nil pass0 (pa_cons (pv 0) pa_nil)) pa_nil)))) (pg_tup rfl (pgs_cons (pg_name (i := 3) sc__law_made_right.nd rfl (Or.inl rfl)) (pgs_cons (pg_name (i := 4) sc__law_made_right.nd rfl (Or.inl rfl)) (pgs_cons (pg_name (i := 5) sc__law_made_right.nd rfl (Or.inr rfl)) pgs_nil)))))
      (pss_cons (ps_if (PW.pt (pw_or (pt_not (pt_val (pe_fn G__law_is_at hq (hr.mono (by omega)) (by rfl) T.g__law_is_at T.k__law_is_at b__law_is_at .nil pass0 (pa_cons (pv 3) (pa_cons (pv 1) pa_nil))))) (pw_or1 (pt_cmpR op_ne (pe_prop (pv 3) T.clP T.tP.choose_spec G_Point_text (hr.mono (by omega)) b_Point_text .nil pass0 (by rfl)) (pe_op op_add_str (pe_op op_add_str (pe_fn G__law_ratio_text hq (hr.mono (by omega)) (by rfl) T.g__law_ratio_text T.k__law_ratio_text b__law_ratio_text .nil pass0 (pa_cons (pe_ix ix_tup (pv 1) pe_int (fun _ _ => rfl)) pa_nil)) pe_str) (pe_fn G__law_ratio_text hq (hr.mono (by omega)) (by rfl) T.g__law_ratio_text T.k__law_ratio_text b__law_ratio_text .nil pass0 (pa_cons (pe_ix ix_tup (pv 1) pe_int (fun _ _ => rfl)) pa_nil))) (nomark _))))) (pss_one (ps_ret pe_bl)) pss_nil)
      (pss_cons (ps_if (PW.pt (pw_or (pt_not (pt_cmpR (op_eqK T.eqp (fnR G_Point___eq__ b_Point___eq__) (hr.mono (by omega)) pass0) (pe_smeth (pe_glob (v := .ref a.Point) (by rfl) T.g_Point rfl) T.oP (fnR G_Point_of b_Point_of) (hr.mono (by omega)) pass0 (pa_cons (pe_prop (pv 3) T.clP T.tP.choose_spec G_Point_text (hr.mono (by omega)) b_Point_text .nil pass0 (by rfl)) pa_nil)) (pv 3) (nomark _))) (pw_or (pt_cmpR op_ne (pe_cmpR (op_eqK T.eqp (fnR G_Point___eq__ b_Point___eq__) (hr.mono (by omega)) pass0) (pv 3) (pv 4) (nomark _)) (pe_cmpR (op_eqD hr.units) (pv 1) (pv 2) (nomark _)) (nomark _)) (pw_or1 (pt_cmpR op_eq (pe_cmpR (op_neK T.eqp G_Point___eq__ b_Point___eq__ (hr.mono (by omega)) pass0) (pv 3) (pv 4) (nomark _)) (pe_cmpR (op_eqD hr.units) (pv 1) (pv 2) (nomark _)) (nomark _)))))) (pss_one (ps_ret pe_bl)) pss_nil)
      (pss_cons (ps_if (PW.pt (pw_or (pt_cmpR (op_eqK T.eqp (fnR G_Point___eq__ b_Point___eq__) (hr.mono (by omega)) pass0) (pv 3) (pv 1) (nomark _)) (pw_or (pt_cmpR (op_eqK T.eqp (fnR G_Point___eq__ b_Point___eq__) (hr.mono (by omega)) pass0) (pv 3) (pe_prop (pv 3) T.clP T.tP.choose_spec G_Point_text (hr.mono (by omega)) b_Point_text .nil pass0 (by rfl)) (nomark _)) (pw_or1 (pt_not (pt_cmpR (op_eqK T.eqp (fnR G_Point___eq__ b_Point___eq__) (hr.mono (by omega)) pass0) (pe_fn G__law_point hq (hr.mono (by omega)) (by rfl) T.g__law_point T.k__law_point b__law_point .nil pass0 (pa_cons (pv 0) (pa_cons (pv 1) pa_nil))) (pv 3) (nomark _))))))) (pss_one (ps_ret pe_bl)) pss_nil)
      (pss_cons (ps_setLc (i := 6) (own := [("_law_left", 11), ("_law_right", 12)]) (g := (gTup K 2 (gCons (gName 11) (gCons (gName 12) gNil)))) (tt := tYes) rfl sc__law_made_right.nd rfl rfl (sw_true rfl rfl rfl (by decide +kernel)) (pi_zipM (by rfl) T.n_zip (pa_cons (pv 1) (pa_cons (pv 2) pa_nil))) (blkOk_by (own := [("_law_left", 11), ("_law_right", 12)]) (N := ["_law_pot_here", "_law_one", "_law_other", "_law_made", "_law_its", "_law_share", "_law_plus", "_law_lower", "_law_way", "_law_come", "_law_turn", "_law_left", "_law_right"]) (sc := defScope s__law_made_right) (by decide +kernel)) (fun _ _ _ _ _ => (pg_tup rfl (pgs_cons (pg_name (i := 11) sc__law_made_right.nd rfl (Or.inl rfl) (hf := Or.inr rfl)) (pgs_cons (pg_name (i := 12) sc__law_made_right.nd rfl (Or.inl rfl) (hf := Or.inr rfl)) pgs_nil)))) (fun _ _ _ _ _ => pts_nil) (fun _ _ _ _ _ => (pe_fn G__law_with hq (hr.mono (by omega)) (by rfl) T.g__law_with T.k__law_with b__law_with .nil pass0 (pa_cons (pv 11) (pa_cons (pv 12) (pa_cons (pe_tup (pa_cons pe_int (pa_cons pe_int pa_nil))) pa_nil))))))
      (pss_cons (ps_setLc (i := 7) (own := [("_law_left", 11), ("_law_right", 12)]) (g := (gTup K 2 (gCons (gName 11) (gCons (gName 12) gNil)))) (tt := tYes) rfl sc__law_made_right.nd rfl rfl (sw_true rfl rfl rfl (by decide +kernel)) (pi_zipM (by rfl) T.n_zip (pa_cons (pv 1) (pa_cons (pv 2) pa_nil))) (blkOk_by (own := [("_law_left", 11), ("_law_right", 12)]) (N := ["_law_pot_here", "_law_one", "_law_other", "_law_made", "_law_its", "_law_share", "_law_plus", "_law_lower", "_law_way", "_law_come", "_law_turn", "_law_left", "_law_right"]) (sc := defScope s__law_made_right) (by decide +kernel)) (fun _ _ _ _ _ => (pg_tup rfl (pgs_cons (pg_name (i := 11) sc__law_made_right.nd rfl (Or.inl rfl) (hf := Or.inr rfl)) (pgs_cons (pg_name (i := 12) sc__law_made_right.nd rfl (Or.inl rfl) (hf := Or.inr rfl)) pgs_nil)))) (fun _ _ _ _ _ => pts_nil) (fun _ _ _ _ _ => (pe_fn G__law_with hq (hr.mono (by omega)) (by rfl) T.g__law_with T.k__law_with b__law_with .nil pass0 (pa_cons (pv 11) (pa_cons (pv 12) (pa_cons (pe_tup (pa_cons (pe_un un_neg pe_int) (pa_cons pe_int pa_nil))) pa_nil))))))
      (pss_cons (ps_setLc (i := 8) (own := [("_law_left", 11), ("_law_right", 12)]) (g := (gTup K 2 (gCons (gName 11) (gCons (gName 12) gNil)))) (tt := tYes) rfl sc__law_made_right.nd rfl rfl (sw_true rfl rfl rfl (by decide +kernel)) (pi_zipM (by rfl) T.n_zip (pa_cons (pv 2) (pa_cons (pv 1) pa_nil))) (blkOk_by (own := [("_law_left", 11), ("_law_right", 12)]) (N := ["_law_pot_here", "_law_one", "_law_other", "_law_made", "_law_its", "_law_share", "_law_plus", "_law_lower", "_law_way", "_law_come", "_law_turn", "_law_left", "_law_right"]) (sc := defScope s__law_made_right) (by decide +kernel)) (fun _ _ _ _ _ => (pg_tup rfl (pgs_cons (pg_name (i := 11) sc__law_made_right.nd rfl (Or.inl rfl) (hf := Or.inr rfl)) (pgs_cons (pg_name (i := 12) sc__law_made_right.nd rfl (Or.inl rfl) (hf := Or.inr rfl)) pgs_nil)))) (fun _ _ _ _ _ => pts_nil) (fun _ _ _ _ _ => (pe_fn G__law_with hq (hr.mono (by omega)) (by rfl) T.g__law_with T.k__law_with b__law_with .nil pass0 (pa_cons (pv 11) (pa_cons (pv 12) (pa_cons (pe_tup (pa_cons (pe_un un_neg pe_int) (pa_cons pe_int pa_nil))) pa_nil))))))
      (pss_cons (ps_setLc (i := 9) (own := [("_law_left", 11), ("_law_right", 12)]) (g := (gTup K 2 (gCons (gName 11) (gCons (gName 12) gNil)))) (tt := tYes) rfl sc__law_made_right.nd rfl rfl (sw_true rfl rfl rfl (by decide +kernel)) (pi_zipM (by rfl) T.n_zip (pa_cons (pv 1) (pa_cons (pv 8) pa_nil))) (blkOk_by (own := [("_law_left", 11), ("_law_right", 12)]) (N := ["_law_pot_here", "_law_one", "_law_other", "_law_made", "_law_its", "_law_share", "_law_plus", "_law_lower", "_law_way", "_law_come", "_law_turn", "_law_left", "_law_right"]) (sc := defScope s__law_made_right) (by decide +kernel)) (fun _ _ _ _ _ => (pg_tup rfl (pgs_cons (pg_name (i := 11) sc__law_made_right.nd rfl (Or.inl rfl) (hf := Or.inr rfl)) (pgs_cons (pg_name (i := 12) sc__law_made_right.nd rfl (Or.inl rfl) (hf := Or.inr rfl)) pgs_nil)))) (fun _ _ _ _ _ => pts_nil) (fun _ _ _ _ _ => (pe_fn G__law_with hq (hr.mono (by omega)) (by rfl) T.g__law_with T.k__law_with b__law_with .nil pass0 (pa_cons (pv 11) (pa_cons (pv 12) (pa_cons (pv 5) pa_nil))))))
      (pss_cons (ps_if (PW.pt (pw_or (pt_not (pt_val (pe_fn G__law_is_at hq (hr.mono (by omega)) (by rfl) T.g__law_is_at T.k__law_is_at b__law_is_at .nil pass0 (pa_cons (pe_op (op_binS T.oA (fnR G_Point___add__ b_Point___add__) (hr.mono (by omega)) pass0) (pv 3) (pv 4)) (pa_cons (pv 6) pa_nil))))) (pw_or1 (pt_not (pt_val (pe_fn G__law_is_at hq (hr.mono (by omega)) (by rfl) T.g__law_is_at T.k__law_is_at b__law_is_at .nil pass0 (pa_cons (pe_op (op_binS T.oS (fnR G_Point___sub__ b_Point___sub__) (hr.mono (by omega)) pass0) (pv 3) (pv 4)) (pa_cons (pv 7) pa_nil)))))))) (pss_one (ps_ret pe_bl)) pss_nil)
      (pss_cons (ps_if (PW.pt (pw_or (pt_not (pt_val (pe_fn G__law_is_at hq (hr.mono (by omega)) (by rfl) T.g__law_is_at T.k__law_is_at b__law_is_at .nil pass0 (pa_cons (pe_meth (pv 3) T.clP T.tw G_Point_towards (hr.mono (by omega)) b_Point_towards .nil passF (pa_cons (pv 4) (pa_cons (pe_fn G__law_number hq (hr.mono (by omega)) (by rfl) T.g__law_number T.k__law_number b__law_number .nil pass0 (pa_cons (pv 0) (pa_cons (pv 5) pa_nil))) pa_nil))) (pa_cons (pv 9) pa_nil))))) (pw_or1 (pt_not (pt_cmpR (op_eqK T.eqp (fnR G_Point___eq__ b_Point___eq__) (hr.mono (by omega)) pass0) (pe_meth (pv 3) T.clP T.tw G_Point_towards (hr.mono (by omega)) b_Point_towards .nil passF (pa_cons (pv 4) (pa_cons pe_int pa_nil))) (pv 3) (nomark _)))))) (pss_one (ps_ret pe_bl)) pss_nil)
      (pss_one (ps_ret (pe_and (pe_cmpR (op_eqK T.eqp (fnR G_Point___eq__ b_Point___eq__) (hr.mono (by omega)) pass0) (pe_meth (pv 3) T.clP T.tw G_Point_towards (hr.mono (by omega)) b_Point_towards .nil passF (pa_cons (pv 4) (pa_cons pe_int pa_nil))) (pv 4) (nomark _)) (pe_and (pe_cmpR (op_eqK T.eqp (fnR G_Point___eq__ b_Point___eq__) (hr.mono (by omega)) pass0) (pe_meth (pv 3) T.clP T.tw G_Point_towards (hr.mono (by omega)) b_Point_towards .nil passF (pa_cons (pv 3) (pa_cons pe_int pa_nil))) (pv 3) (nomark _)) (pe_one (pe_fn G__law_is_at hq (hr.mono (by omega)) (by rfl) T.g__law_is_at T.k__law_is_at b__law_is_at .nil pass0 (pa_cons (pv 3) (pa_cons (pv 1) pa_nil))))))))))))))))))), ?body⟩)
  case len => obtain ⟨p, k, rfl, _⟩ := h; rfl
  case body =>
    obtain ⟨p, k, rfl, pot, hk, q⟩ := h
    refine ⟨_, rfl, by decide, by decide, fun D hD => ?_⟩
    refine lc_it walk_range (fun i H' => ∃ ys, H' D = some (.lst ys) ∧ ys.length = i ∧ (∀ y ∈ ys, Dt (wo p H') y) ∧ PotAt H' p (k + 8 * i) ∧ Same (wo p H) (wo p H')) ⟨[], upd_same, rfl, (fun y hy => nomatch hy), pot.same (same_new hD), wo_mono (same_new hD)⟩ (fun _ _ _ _ => trivial) ?_ ?_
    · rintro i x H2 H2' hi ⟨ys, dy, ly, al, p2, s2⟩ ⟨rfl, rfl⟩
      refine ⟨rfl, ?_⟩
      unfold tYes
      refine iteT ?_
      refine ⟨_, rfl, p, k + 8 * i, rfl, p2, by omega, fun v3 H3 n3 u3 g3 v3' l3 => ?_⟩
      refine ⟨_, rfl, p, k + 8 * i + 4, rfl, g3.pot, by omega, fun v4 H4 n4 u4 g4 v4' l4 => ?_⟩
      refine ⟨(by show 2 ≤ sizeLine; decide), fun t ht => ?_⟩
      have g34 := g3.trans g4
      have nD : D ≠ p := fun z => pot.has (by rw [← z]; exact hD)
      have d4 := g34.at dy nD
      have St := same_new (o := .tup [v3, v4]) ht
      have d5 := St _ _ d4
      have p4 := g34.pot.same St
      have s4 := s2.trans (g34.keep.trans (wo_mono St))
      have s24 := g34.keep.trans (wo_mono St)
      have e3 : PairAt (wo p (upd H4 t (.tup [v3, v4]))) v3 n3 u3 := (v3'.wo g3.pot).same (g4.keep.trans (wo_mono St))
      have e4 : PairAt (wo p (upd H4 t (.tup [v3, v4]))) v4 n4 u4 := (v4'.wo g4.pot).same (wo_mono St)
      have e5 : DotAt (wo p (upd H4 t (.tup [v3, v4]))) (.ref t) n3 u3 n4 u4 := ⟨t, v3, v4, rfl, tup_wo p4 upd_same, e3, e4⟩
      have nl := wo_noL (p := p) (ys := ys ++ [.ref t]) d5
      have ntD : H D = none := hD
      refine ⟨ys, d5, by rw [ly, sizeLine_eq]; omega, ys ++ [.ref t], upd_same, by rw [List.length_append, ly]; rfl, fun y hy => ?_, (p4.over nD).mono (by omega), fun b o e => ?_⟩
      · rcases List.mem_append.mp hy with hy | hy
        · obtain ⟨n, u, m, t', d, l⟩ := al y hy
          exact ⟨n, u, m, t', (d.same s24).noL nl, l⟩
        · rw [List.mem_singleton.mp hy]
          exact ⟨_, _, _, _, e5.noL nl, l3, l4⟩
      · have nb : b ≠ p := fun z => by rw [z, wo_same] at e; cases e
        have nbD : b ≠ D := fun z => by rw [z, wo_ne nD, hD] at e; cases e
        have := s4 b o e
        rw [wo_ne nb] at this ⊢
        rw [upd_ne nbD]
        exact this
    · rintro H2 ⟨ys, dy, ly, al, p2, s2⟩
      obtain ⟨y1, y2, rfl⟩ : ∃ y1 y2, ys = [y1, y2] := by
        match ys, ly with
        | [y1, y2], _ => exact ⟨y1, y2, rfl⟩
      obtain ⟨n1, u1, m1, t1, d1, l1, l2⟩ := al y1 (by simp)
      obtain ⟨n2, u2, m2, t2, d2, l3, l4⟩ := al y2 (by simp)
      have g2 : Go p (k + 16) H H2 := ⟨s2, p2.mono (by show k + 8 * 2 ≤ _; omega)⟩
      clear al ly s2 p2
      refine ⟨D, _, rfl, SqL.of dy, rfl, _, _, rfl, _, _, rfl, rfl, ?_⟩
      clear dy
      refine ⟨_, rfl, _, rfl, p, k + 16, y1, n1, u1, m1, t1, rfl, g2.pot, by omega, d1.same (wo_le _ _), l1, l2, fun v3 H3 g3 q3 => ?_⟩
      refine ⟨_, rfl, _, rfl, p, k + 18, y2, n2, u2, m2, t2, rfl, g3.pot, by omega, (d2.same g3.keep).same (wo_le _ _), l3, l4, fun v4 H4 g4 q4 => ?_⟩
      refine ⟨_, rfl, p, k + 20, rfl, g4.pot, by omega, fun v5 H5 n5 u5 g5 q5 l5 => ?_⟩
      refine ⟨(by show 3 ≤ sizeLine; decide), fun t0 f0 => ⟨t0, _, rfl, SqT.of upd_same, rfl, _, _, rfl, _, _, rfl, _, _, rfl, rfl, ?_⟩⟩
      have S6 := same_new (o := .tup [v3, v4, v5]) f0
      have g6 : Go p (k + 24) H (upd H5 t0 (.tup [v3, v4, v5])) := (((g2.trans g3).trans g4).trans g5).trans ⟨wo_mono S6, g5.pot.same S6⟩
      have X6 : Two a.Ratio a.Point p y1 y2 v3 v4 v5 n1 u1 m1 t1 n2 u2 m2 t2 n5 u5 (upd H5 t0 (.tup [v3, v4, v5])) :=
        ⟨d1.same (g3.keep.trans (g4.keep.trans (g5.keep.trans (wo_mono S6)))), d2.same (g3.keep.trans (g4.keep.trans (g5.keep.trans (wo_mono S6)))), (q3.wo g3.pot).same (g4.keep.trans (g5.keep.trans (wo_mono S6))), (q4.wo g4.pot).same (g5.keep.trans (wo_mono S6)), (q5.wo g5.pot).same (wo_mono S6)⟩
      generalize (upd H5 t0 (.tup [v3, v4, v5])) = H6 at g6 X6 ⊢
      clear g2 g3 g4 g5 q3 q4 q5 d1 d2 S6 f0
      obtain ⟨b1, x1, z1, rfl, _⟩ := id X6.d1
      obtain ⟨b2, x2, z2, rfl, _⟩ := id X6.d2
      obtain ⟨r3, _, _, _, rfl, _⟩ := id X6.m
      obtain ⟨r4, _, _, _, rfl, _⟩ := id X6.i
      have at1 : ∀ {H : Hp}, Two a.Ratio a.Point p (.ref b1) (.ref b2) (.ref r3) (.ref r4) v5 n1 u1 m1 t1 n2 u2 m2 t2 n5 u5 H → ∃ x z, PtAt a.Ratio a.Point H (.ref r3) n1 u1 m1 t1 ∧ H b1 = some (.tup [x, z]) ∧ PairAt H x n1 u1 ∧ PairAt H z m1 t1 := fun {H} X => by
        obtain ⟨_, x, z, e, h1, h2, h3⟩ := X.d1
        cases e
        exact ⟨x, z, X.m.same (wo_le _ _), wo_le _ _ _ _ h1, h2.same (wo_le _ _), h3.same (wo_le _ _)⟩
      have md : Mid n1 ∧ Mid u1 ∧ Mid m1 ∧ Mid t1 := ⟨l1.nm, l1.um, l2.nm, l2.um⟩
      obtain ⟨x, z, a1, a2, a3, a4⟩ := at1 X6
      refine ⟨_, rfl, _, rfl, _, b1, x, z, n1, u1, m1, t1, rfl, a1, .inl a2, a3, a4, md, fun H7 S7 => ⟨_, rfl, iteF ?_⟩⟩
      have X7 := X6.same (wo_mono S7)
      have g7 : Go p (k + 24) H H7 := g6.trans ⟨wo_mono S7, g6.pot.same S7⟩
      clear a1 a2 a3 a4
      obtain ⟨x, z, a1, a2, a3, a4⟩ := at1 X7
      have ins : ∀ {H : Hp} {r : Addr} {n u m t : Int}, PtAt a.Ratio a.Point H (.ref r) n u m t → ∃ dx v w, H r = some (.ins a.Point dx (ptFs v w)) := fun {H r n u m t} h => by
        obtain ⟨_, dx, v, w, e, h, _⟩ := h
        cases e
        exact ⟨dx, v, w, h⟩
      have bd1 : (n1.natAbs < 10 ^ 64 ∧ 0 < u1 ∧ u1.natAbs < 10 ^ 64) ∧ (m1.natAbs < 10 ^ 64 ∧ 0 < t1 ∧ t1.natAbs < 10 ^ 64) := ⟨⟨l1.n64, l1.red.pos, l1.u64⟩, ⟨l2.n64, l2.red.pos, l2.u64⟩⟩
      have ln1 : (ratL n1 u1).length ≤ 20 := Nat.le_trans (ratL_le (k := 7) (j := 4) (by decide) (by decide) (Nat.lt_of_le_of_lt l1.num (by decide)) (Nat.lt_of_le_of_lt l1.und (by decide))) (by decide)
      have ln2 : (ratL m1 t1).length ≤ 20 := Nat.le_trans (ratL_le (k := 7) (j := 4) (by decide) (by decide) (Nat.lt_of_le_of_lt l2.num (by decide)) (Nat.lt_of_le_of_lt l2.und (by decide))) (by decide)
      obtain ⟨dx, vx, vy, hx⟩ := ins a1
      refine ⟨_, rfl, r3, dx, _, rfl, hx, .ref r3, n1, u1, m1, t1, rfl, a1, bd1.1, bd1.2, fun H8 S8 => ?_⟩
      have X8 := X7.same (wo_mono S8)
      have g8 : Go p (k + 24) H H8 := g7.trans ⟨wo_mono S8, g7.pot.same S8⟩
      clear a1 a2 a3 a4 hx
      obtain ⟨x, z, a1, a2, a3, a4⟩ := at1 X8
      refine ⟨_, rfl, _, _, _, _, rfl, rfl, SqT.of a2, rfl, x, n1, u1, rfl, a3, l1.n64, l1.u64, ?_⟩
      refine ⟨_, _, rfl, rfl, by rw [S_len, blank_S, S_len, sizeLine_eq, List.length_singleton]; omega, ?_⟩
      refine ⟨_, rfl, _, _, _, _, rfl, rfl, SqT.of a2, rfl, z, m1, t1, rfl, a4, l2.n64, l2.u64, ?_⟩
      rw [blank_S, S_cat]
      refine ⟨_, _, rfl, rfl, by rw [S_len, S_len, sizeLine_eq, List.length_append, List.length_singleton]; omega, ?_⟩
      rw [S_cat, show ratL n1 u1 ++ [32] ++ ratL m1 t1 = ratL n1 u1 ++ 32 :: ratL m1 t1 by rw [List.append_assoc]; rfl]
      refine ⟨rfl, _, rfl, ?_⟩
      rw [decide_eq_true rfl]
      refine iteF ?_
      have nfP : PySem.W.notFirst K a.Point (.ref a.Point) = true := by simp [PySem.W.notFirst]
      have nS := T.eqp.nf "str" (by decide)
      have nT := T.eqp.nf "tuple" (by decide)
      have du4 : ∀ {n u m t : Int}, decide (n = n ∧ u = u ∧ m = m ∧ t = t) = true := fun {n u m t} => decide_eq_true ⟨rfl, rfl, rfl, rfl⟩
      have p1 : ∀ {H : Hp}, Two a.Ratio a.Point p (.ref b1) (.ref b2) (.ref r3) (.ref r4) v5 n1 u1 m1 t1 n2 u2 m2 t2 n5 u5 H → PtAt a.Ratio a.Point H (.ref r3) n1 u1 m1 t1 := fun X => X.m.same (wo_le _ _)
      have p2 : ∀ {H : Hp}, Two a.Ratio a.Point p (.ref b1) (.ref b2) (.ref r3) (.ref r4) v5 n1 u1 m1 t1 n2 u2 m2 t2 n5 u5 H → PtAt a.Ratio a.Point H (.ref r4) n2 u2 m2 t2 := fun X => X.i.same (wo_le _ _)
      clear a1 a2 a3 a4
      -- read back
      obtain ⟨dx, vx, vy, hx⟩ := ins (p1 X8)
      refine ⟨rfl, _, rfl, r3, dx, _, rfl, hx, .ref r3, n1, u1, m1, t1, rfl, p1 X8, bd1.1, bd1.2, fun H9 S9 => ?_⟩
      have X9 := X8.same (wo_mono S9)
      refine ⟨ratL n1 u1 ++ 32 :: ratL m1 t1, n1, u1, m1, t1, rfl, by rw [List.length_append, List.length_cons]; omega, ⟨_, _, ⟨l1.red, rfl⟩, ⟨l2.red, rfl⟩, rfl⟩, fun w10 H10 S10 hw10 => ?_⟩
      have X10 := X9.same (wo_mono S10)
      obtain ⟨w10, d10, _, _, rfl, hw, _⟩ := id hw10
      clear hx
      obtain ⟨dx, vx, vy, hx⟩ := ins (p1 X10)
      refine ⟨_, rfl, w10, d10, _, _, rfl, hw, .ins hx, nfP, _, _, n1, u1, m1, t1, rfl, hw10, .inl ⟨n1, u1, m1, t1, p1 X10, fun H11 S11 => ⟨_, rfl, ?_⟩⟩⟩
      rw [du4]
      refine iteF ?_
      have X11 := X10.same (wo_mono S11)
      have S811 := (S9.trans S10).trans S11
      have g11 : Go p (k + 24) H H11 := g8.trans ⟨wo_mono S811, g8.pot.same S811⟩
      clear S9 S10 S11 X9 X10 hw10 hw hx S811 X8 g8 X7 g7 X6 g6
      -- == and !=
      obtain ⟨dx, vx, vy, hx⟩ := ins (p1 X11)
      obtain ⟨dy, wx, wy, hy⟩ := ins (p2 X11)
      refine ⟨_, rfl, _, rfl, r3, dx, _, _, rfl, hx, .ins hy, nfP, _, _, n1, u1, m1, t1, rfl, p1 X11, .inl ⟨n2, u2, m2, t2, p2 X11, fun H12 S12 => ?_⟩⟩
      have X12 := X11.same (wo_mono S12)
      refine ⟨_, rfl, _, rfl, _, _, dot_dp (X12.d1.same (wo_le _ _)), dot_dp (X12.d2.same (wo_le _ _)), rfl, rfl, ?_⟩
      rw [eqv_dot]
      refine ⟨rfl, _, rfl, ?_⟩
      rw [decide_eq_true rfl]
      refine iteF ?_
      obtain ⟨dx, vx, vy, hx⟩ := ins (p1 X12)
      obtain ⟨dy, wx, wy, hy⟩ := ins (p2 X12)
      refine ⟨_, rfl, _, rfl, r3, dx, _, _, rfl, hx, .ins hy, nfP, _, _, n1, u1, m1, t1, rfl, p1 X12, .inl ⟨n2, u2, m2, t2, p2 X12, fun H13 S13 => ⟨_, rfl, ?_⟩⟩⟩
      have X13 := X12.same (wo_mono S13)
      refine ⟨_, rfl, _, rfl, _, _, dot_dp (X13.d1.same (wo_le _ _)), dot_dp (X13.d2.same (wo_le _ _)), rfl, rfl, ?_⟩
      rw [eqv_dot]
      refine ⟨rfl, _, rfl, ?_⟩
      have nb : ∀ b : Bool, decide (V.bl (!b) = V.bl b) = false := fun b => by cases b <;> rfl
      rw [nb]
      refine iteF ?_
      -- equal to nothing else
      obtain ⟨dx, vx, vy, hx⟩ := ins (p1 X13)
      obtain ⟨x, z, a1, a2, a3, a4⟩ := at1 X13
      refine ⟨_, rfl, _, rfl, r3, dx, _, _, rfl, hx, .tup a2, nT, _, _, n1, u1, m1, t1, rfl, p1 X13, .inr ⟨⟨_, .base (.tup a2), T.riP.kt _ (by simp)⟩, _, rfl, iteF ?_⟩⟩
      refine ⟨_, rfl, _, rfl, r3, dx, _, rfl, hx, .ref r3, n1, u1, m1, t1, rfl, p1 X13, bd1.1, bd1.2, fun H14 S14 => ?_⟩
      have X14 := X13.same (wo_mono S14)
      obtain ⟨dx, vx, vy, hx⟩ := ins (p1 X14)
      refine ⟨r3, dx, _, _, rfl, hx, .str _, nS, _, _, n1, u1, m1, t1, rfl, p1 X14, .inr ⟨⟨_, .base (.str _), T.riP.kt _ (by simp)⟩, _, rfl, iteF ?_⟩⟩
      have S1114 := (S12.trans S13).trans S14
      have g14 : Go p (k + 24) H H14 := g11.trans ⟨wo_mono S1114, g11.pot.same S1114⟩
      refine ⟨_, rfl, _, rfl, p, k + 24, .ref b1, n1, u1, m1, t1, rfl, g14.pot, by omega, X14.d1.same (wo_le _ _), l1, l2, fun v H15 g15 q15 => ?_⟩
      have X15 := X14.same g15.keep
      have ga : Go p (k + 26) H H15 := g14.trans g15
      obtain ⟨w15, d15, _, _, rfl, hw, _⟩ := id q15
      obtain ⟨dx, vx, vy, hx⟩ := ins (p1 X15)
      refine ⟨_, rfl, w15, d15, _, _, rfl, hw, .ins hx, nfP, _, _, n1, u1, m1, t1, rfl, q15, .inl ⟨n1, u1, m1, t1, p1 X15, fun H16 S16 => ⟨_, rfl, ?_⟩⟩⟩
      rw [du4]
      refine iteF ?_
      have X16 := X15.same (wo_mono S16)
      have gb : Go p (k + 26) H H16 := ga.trans ⟨wo_mono S16, ga.pot.same S16⟩
      clear S12 S13 S14 X12 X13 X14 S1114 g14 g11 X11 g15 q15 hw ga X15 S16 hx hy a1 a2 a3 a4
      -- the law's own sums
      have mi1 : Mi 1 := by show (1 : Int).natAbs ≤ 10 ^ 10; decide
      have mi0 : Mi (-1) := by show (-1 : Int).natAbs ≤ 10 ^ 10; decide
      have at2 : ∀ {H : Hp}, Two a.Ratio a.Point p (.ref b1) (.ref b2) (.ref r3) (.ref r4) v5 n1 u1 m1 t1 n2 u2 m2 t2 n5 u5 H → ∃ x z, H b2 = some (.tup [x, z]) ∧ PairAt H x n2 u2 ∧ PairAt H z m2 t2 := fun {H} X => by
        obtain ⟨_, x, z, e, h1, h2, h3⟩ := X.d2
        cases e
        exact ⟨x, z, wo_le _ _ _ _ h1, h2.same (wo_le _ _), h3.same (wo_le _ _)⟩
      obtain ⟨x, z, _, a2, a3, a4⟩ := at1 X16
      obtain ⟨x', z', c2, c3, c4⟩ := at2 X16
      refine ⟨_, rfl, _, rfl, .tu, .tu, b1, b2, [x, z], [x', z'], rfl, SqT.of a2, SqT.of c2, fun D6 hD6 => ?_⟩
      refine zip_with (s := 1) (r := 1) hD6 (SqT.of a2) (SqT.of c2) (fun _ _ => rfl) (by show 13 ≤ 13; decide) a3 a4 c3 c4 (fun _ _ H' Q S k => ⟨(by show 2 ≤ sizeLine; decide), fun t ht => k _ _ (same_new ht) ⟨t, rfl, upd_same⟩⟩) ⟨lo_ne l1, lo_ne l2, lo_ne l3, lo_ne l4, by decide⟩ ⟨mi_n l1, mi_u l1, mi_n l2, mi_u l2, mi_n l3, mi_u l3, mi_n l4, mi_u l4, mi1, mi1⟩ fun q0 q1 H17 S17 hq e0 e1 => ?_
      have X17 := X16.same (wo_mono S17)
      have g17 : Go p (k + 26) H H17 := gb.trans ⟨wo_mono S17, gb.pot.same S17⟩
      have L6 := LsP.mk g17.pot hD6 gb.pot hq e0 e1
      clear a2 a3 a4 c2 c3 c4 S17 hq e0 e1 X16 gb
      -- less
      obtain ⟨x, z, _, a2, a3, a4⟩ := at1 X17
      obtain ⟨x', z', c2, c3, c4⟩ := at2 X17
      refine ⟨_, rfl, _, rfl, .tu, .tu, b1, b2, [x, z], [x', z'], rfl, SqT.of a2, SqT.of c2, fun D7 hD7 => ?_⟩
      refine zip_with (s := -1) (r := 1) hD7 (SqT.of a2) (SqT.of c2) (fun _ _ => rfl) (by show 13 ≤ 13; decide) a3 a4 c3 c4 (fun _ _ H' Q S k => ⟨_, rfl, (by show 2 ≤ sizeLine; decide), fun t ht => k _ _ (same_new ht) ⟨t, rfl, upd_same⟩⟩) ⟨lo_ne l1, lo_ne l2, lo_ne l3, lo_ne l4, by decide⟩ ⟨mi_n l1, mi_u l1, mi_n l2, mi_u l2, mi_n l3, mi_u l3, mi_n l4, mi_u l4, mi0, mi1⟩ fun q0 q1 H18 S18 hq e0 e1 => ?_
      have X18 := X17.same (wo_mono S18)
      have g18 : Go p (k + 26) H H18 := g17.trans ⟨wo_mono S18, g17.pot.same S18⟩
      have L7 := LsP.mk g18.pot hD7 g17.pot hq e0 e1
      replace L6 := L6.same (wo_mono S18)
      clear a2 a3 a4 c2 c3 c4 S18 hq e0 e1 X17 g17
      -- the way
      obtain ⟨x, z, _, a2, a3, a4⟩ := at1 X18
      obtain ⟨x', z', c2, c3, c4⟩ := at2 X18
      refine ⟨_, rfl, _, rfl, .tu, .tu, b2, b1, [x', z'], [x, z], rfl, SqT.of c2, SqT.of a2, fun D8 hD8 => ?_⟩
      refine zip_with (s := -1) (r := 1) hD8 (SqT.of c2) (SqT.of a2) (fun _ _ => rfl) (by show 13 ≤ 13; decide) c3 c4 a3 a4 (fun _ _ H' Q S k => ⟨_, rfl, (by show 2 ≤ sizeLine; decide), fun t ht => k _ _ (same_new ht) ⟨t, rfl, upd_same⟩⟩) ⟨lo_ne l3, lo_ne l4, lo_ne l1, lo_ne l2, by decide⟩ ⟨mi_n l3, mi_u l3, mi_n l4, mi_u l4, mi_n l1, mi_u l1, mi_n l2, mi_u l2, mi0, mi1⟩ fun q0 q1 H19 S19 hq e0 e1 => ?_
      have X19 := X18.same (wo_mono S19)
      have g19 : Go p (k + 26) H H19 := g18.trans ⟨wo_mono S19, g18.pot.same S19⟩
      have L8 := LsP.mk g19.pot hD8 g18.pot hq e0 e1
      replace L6 := L6.same (wo_mono S19)
      replace L7 := L7.same (wo_mono S19)
      clear a2 a3 a4 c2 c3 c4 S19 hq e0 e1 X18 g18
      -- along it
      obtain ⟨wx1, wx2⟩ := way_mi l1 l3
      obtain ⟨wz1, wz2⟩ := way_mi l2 l4
      have nx0 := way_ne l1 l3
      have nz0 := way_ne l2 l4
      obtain ⟨x, z, _, a2, a3, a4⟩ := at1 X19
      obtain ⟨x', z', c2, c3, c4⟩ := L8.get
      refine ⟨_, rfl, _, rfl, .tu, .li, b1, D8, [x, z], [x', z'], rfl, SqT.of a2, SqL.of c2, fun D9 hD9 => ?_⟩
      refine zip_with (s := n5) (r := u5) hD9 (SqT.of a2) (SqL.of c2) (fun _ _ => rfl) (by show 13 ≤ 13; decide) a3 a4 c3 c4 (fun _ _ H' Q S k => ⟨_, rfl, k _ _ (Same.refl _) ((X19.s.same (wo_le _ _)).same S)⟩) ⟨lo_ne l1, lo_ne l2, nx0, nz0, lo_ne l5⟩ ⟨mi_n l1, mi_u l1, mi_n l2, mi_u l2, wx1, wx2, wz1, wz2, mi_n l5, mi_u l5⟩ fun q0 q1 H20 S20 hq e0 e1 => ?_
      have X20 := X19.same (wo_mono S20)
      have g20 : Go p (k + 26) H H20 := g19.trans ⟨wo_mono S20, g19.pot.same S20⟩
      have L9 := LsP.mk g20.pot hD9 g19.pot hq e0 e1
      replace L6 := L6.same (wo_mono S20)
      replace L7 := L7.same (wo_mono S20)
      clear a2 a3 a4 c2 c3 c4 S20 hq e0 e1 X19 g19 L8
      -- what the points say
      obtain ⟨q0, q1, hq, e0, e1⟩ := L6.get
      obtain ⟨dx, vx, vy, hx⟩ := ins (p1 X20)
      obtain ⟨dy, wx, wy, hy⟩ := ins (p2 X20)
      refine ⟨_, rfl, _, rfl, r3, r4, dx, dy, _, _, rfl, rfl, hx, hy, _, _, n1, u1, m1, t1, n2, u2, m2, t2, rfl, p1 X20, p2 X20, l1, l2, l3, l4, fun z21 H21 S21 pt => ?_⟩
      rw [(add_same n1 u1 n2 u2).1, (add_same n1 u1 n2 u2).2] at e0
      rw [(add_same m1 t1 m2 t2).1, (add_same m1 t1 m2 t2).2] at e1
      have mx := mid_with (mi_n l1) (mi_u l1) (mi_n l3) (mi_u l3) mi1 mi1 (lo_ne l1) (lo_ne l3) (by decide)
      have mz := mid_with (mi_n l2) (mi_u l2) (mi_n l4) (mi_u l4) mi1 mi1 (lo_ne l2) (lo_ne l4) (by decide)
      rw [(add_same n1 u1 n2 u2).1, (add_same n1 u1 n2 u2).2] at mx
      rw [(add_same m1 t1 m2 t2).1, (add_same m1 t1 m2 t2).2] at mz
      refine ⟨_, rfl, z21, D6, q0, q1, _, _, _, _, rfl, pt, .inr (S21 _ _ hq), e0.same S21, e1.same S21, ⟨mx.1, mx.2, mz.1, mz.2⟩, fun H22 S22 => ⟨_, rfl, iteF ?_⟩⟩
      have X22 := X20.same (wo_mono (S21.trans S22))
      have g22 : Go p (k + 26) H H22 := g20.trans ⟨wo_mono (S21.trans S22), g20.pot.same (S21.trans S22)⟩
      replace L7 := L7.same (wo_mono (S21.trans S22))
      replace L9 := L9.same (wo_mono (S21.trans S22))
      clear L6 hq e0 e1 hx hy pt mx mz X20 g20 S21 S22
      obtain ⟨q0, q1, hq, e0, e1⟩ := L7.get
      obtain ⟨dx, vx, vy, hx⟩ := ins (p1 X22)
      obtain ⟨dy, wx, wy, hy⟩ := ins (p2 X22)
      refine ⟨_, rfl, _, rfl, r3, r4, dx, dy, _, _, rfl, rfl, hx, hy, _, _, n1, u1, m1, t1, n2, u2, m2, t2, rfl, p1 X22, p2 X22, l1, l2, l3, l4, fun z21 H21 S21 pt => ?_⟩
      rw [(sub_same n1 u1 n2 u2).1, (sub_same n1 u1 n2 u2).2] at e0
      rw [(sub_same m1 t1 m2 t2).1, (sub_same m1 t1 m2 t2).2] at e1
      have mx := mid_with (mi_n l1) (mi_u l1) (mi_n l3) (mi_u l3) mi0 mi1 (lo_ne l1) (lo_ne l3) (by decide)
      have mz := mid_with (mi_n l2) (mi_u l2) (mi_n l4) (mi_u l4) mi0 mi1 (lo_ne l2) (lo_ne l4) (by decide)
      rw [(sub_same n1 u1 n2 u2).1, (sub_same n1 u1 n2 u2).2] at mx
      rw [(sub_same m1 t1 m2 t2).1, (sub_same m1 t1 m2 t2).2] at mz
      refine ⟨_, rfl, z21, D7, q0, q1, _, _, _, _, rfl, pt, .inr (S21 _ _ hq), e0.same S21, e1.same S21, ⟨mx.1, mx.2, mz.1, mz.2⟩, fun H23 S23 => ⟨_, rfl, iteF ?_⟩⟩
      have X23 := X22.same (wo_mono (S21.trans S23))
      have g23 : Go p (k + 26) H H23 := g22.trans ⟨wo_mono (S21.trans S23), g22.pot.same (S21.trans S23)⟩
      replace L9 := L9.same (wo_mono (S21.trans S23))
      clear L7 hq e0 e1 hx hy pt mx mz X22 g22 S21 S23
      -- towards
      obtain ⟨dx, vx, vy, hx⟩ := ins (p1 X23)
      refine ⟨_, rfl, r3, dx, _, rfl, hx, rfl, _, rfl, _, rfl, _, rfl, p, k + 26, v5, n5, u5, rfl, g23.pot, by omega, X23.s.same (wo_le _ _), l5, fun v24 H24 g24 q24 => ?_⟩
      have X24 := X23.same g24.keep
      have ga : Go p (k + 27) H H24 := g23.trans g24
      replace L9 := L9.same g24.keep
      refine ⟨_, _, _, n1, u1, m1, t1, rfl, p1 X24, .inl ⟨n2, u2, m2, t2, n5, u5, p2 X24, q24, l1, l2, l3, l4, l5, fun z25 H25 S25 pt => ?_⟩⟩
      obtain ⟨q0, q1, hq, e0, e1⟩ := L9.get
      have tx := tw_same l1 l3 l5 _ _ rfl rfl
      have tz := tw_same l2 l4 l5 _ _ rfl rfl
      rw [tx.1, tx.2, tz.1, tz.2] at pt
      have mx := mid_with (mi_n l1) (mi_u l1) wx1 wx2 (mi_n l5) (mi_u l5) (lo_ne l1) nx0 (lo_ne l5)
      have mz := mid_with (mi_n l2) (mi_u l2) wz1 wz2 (mi_n l5) (mi_u l5) (lo_ne l2) nz0 (lo_ne l5)
      refine ⟨_, rfl, z25, D9, q0, q1, _, _, _, _, rfl, pt, .inr (S25 _ _ hq), e0.same S25, e1.same S25, ⟨mx.1, mx.2, mz.1, mz.2⟩, fun H26 S26 => ⟨_, rfl, iteF ?_⟩⟩
      have X26 := X24.same (wo_mono (S25.trans S26))
      have g26 : Go p (k + 27) H H26 := ga.trans ⟨wo_mono (S25.trans S26), ga.pot.same (S25.trans S26)⟩
      clear L9 hq e0 e1 hx pt mx mz tx tz X23 X24 g23 ga g24 q24 S25 S26
      obtain ⟨dx, vx, vy, hx⟩ := ins (p1 X26)
      have lo0 : Lo 0 1 := lo_int (by decide)
      have lo1 : Lo 1 1 := lo_int (by decide)
      have lo5 : Lo 5 1 := lo_int (by decide)
      refine ⟨_, rfl, r3, dx, _, rfl, hx, rfl, _, rfl, _, _, _, n1, u1, m1, t1, rfl, p1 X26, .inl ⟨n2, u2, m2, t2, 0, 1, p2 X26, .inl ⟨rfl, rfl⟩, l1, l2, l3, l4, lo0, fun z27 H27 S27 pt => ?_⟩⟩
      have tx := tw_at (s := 0) (r := 1) l1 l3 (by decide) l1.red (by unfold twN twU; grind)
      have tz := tw_at (s := 0) (r := 1) l2 l4 (by decide) l2.red (by unfold twN twU; grind)
      rw [tx.1, tx.2, tz.1, tz.2] at pt
      have X27 := X26.same (wo_mono S27)
      obtain ⟨r27, d27, _, _, rfl, hw, _⟩ := id pt
      obtain ⟨dx, vx, vy, hx⟩ := ins (p1 X27)
      refine ⟨_, rfl, r27, d27, _, _, rfl, hw, .ins hx, nfP, _, _, n1, u1, m1, t1, rfl, pt, .inl ⟨n1, u1, m1, t1, p1 X27, fun H28 S28 => ⟨_, rfl, ?_⟩⟩⟩
      rw [du4]
      refine iteF ?_
      have X28 := X27.same (wo_mono S28)
      have g28 : Go p (k + 27) H H28 := g26.trans ⟨wo_mono (S27.trans S28), g26.pot.same (S27.trans S28)⟩
      clear hx hw pt tx tz X26 X27 g26 S27 S28
      obtain ⟨dx, vx, vy, hx⟩ := ins (p1 X28)
      refine ⟨_, rfl, r3, dx, _, rfl, hx, rfl, _, rfl, _, _, _, n1, u1, m1, t1, rfl, p1 X28, .inl ⟨n2, u2, m2, t2, 1, 1, p2 X28, .inl ⟨rfl, rfl⟩, l1, l2, l3, l4, lo1, fun z29 H29 S29 pt => ?_⟩⟩
      have tx := tw_at (s := 1) (r := 1) l1 l3 (by decide) l3.red (by unfold twN twU; grind)
      have tz := tw_at (s := 1) (r := 1) l2 l4 (by decide) l4.red (by unfold twN twU; grind)
      rw [tx.1, tx.2, tz.1, tz.2] at pt
      have X29 := X28.same (wo_mono S29)
      obtain ⟨r29, d29, _, _, rfl, hw, _⟩ := id pt
      obtain ⟨dy, wx, wy, hy⟩ := ins (p2 X29)
      refine ⟨_, rfl, r29, d29, _, _, rfl, hw, .ins hy, nfP, _, _, n2, u2, m2, t2, rfl, pt, .inl ⟨n2, u2, m2, t2, p2 X29, fun H30 S30 => ⟨_, rfl, ?_⟩⟩⟩
      rw [du4]
      refine iteT ?_
      have X30 := X29.same (wo_mono S30)
      obtain ⟨dx, vx, vy, hx⟩ := ins (p1 X30)
      refine ⟨_, rfl, r3, dx, _, rfl, hx, rfl, _, rfl, _, _, _, n1, u1, m1, t1, rfl, p1 X30, .inl ⟨n1, u1, m1, t1, 5, 1, p1 X30, .inl ⟨rfl, rfl⟩, l1, l2, l1, l2, lo5, fun z31 H31 S31 pt => ?_⟩⟩
      have tx := tw_at (s := 5) (r := 1) l1 l1 (by decide) l1.red (by unfold twN twU; grind)
      have tz := tw_at (s := 5) (r := 1) l2 l2 (by decide) l2.red (by unfold twN twU; grind)
      rw [tx.1, tx.2, tz.1, tz.2] at pt
      have X31 := X30.same (wo_mono S31)
      obtain ⟨r31, d31, _, _, rfl, hw, _⟩ := id pt
      obtain ⟨dx, vx, vy, hx⟩ := ins (p1 X31)
      refine ⟨_, rfl, r31, d31, _, _, rfl, hw, .ins hx, nfP, _, _, n1, u1, m1, t1, rfl, pt, .inl ⟨n1, u1, m1, t1, p1 X31, fun H32 S32 => ⟨_, rfl, ?_⟩⟩⟩
      rw [du4]
      refine iteT ?_
      have X32 := X31.same (wo_mono S32)
      obtain ⟨x, z, a1, a2, a3, a4⟩ := at1 X32
      refine ⟨_, rfl, _, rfl, _, b1, x, z, n1, u1, m1, t1, rfl, a1, .inl a2, a3, a4, md, fun H33 S33 => ?_⟩
      have S := (((S29.trans S30).trans S31).trans S32).trans S33
      exact q _ ⟨g28.keep.trans (wo_mono S), (g28.pot.same S).mono (by omega)⟩
end
end My

namespace My
open PySem PySem.Spec PyProof.Rows L2 G LamX SX NumText
abbrev s_law : Stmt := topS 43
theorem sc_law : FnScope ["_law_script", "_law_place", "_law_pot_here", "_law_turn"] ["_law_script"] (defScope s_law) := ⟨rfl, rfl, rfl, by decide +kernel, rfl, by decide +kernel, by decide +kernel⟩

theorem sql_ext {K : PySem.W.Frag} {H H' : Hp} {a : Addr} {xs : List V} (e : ExtN H H') (h : SqL K H a xs) : SqL K H' a xs := by
  rcases h with (h | ⟨o, h⟩) | h
  · exact .inl (.inl (e _ _ h fun _ z => nomatch z))
  · exact .inl (.inr ⟨o, e _ _ h fun _ z => nomatch z⟩)
  · exact .inr h
def spLaw (K : PySem.W.Frag) (Pt : Addr) : Sp := fun vs H Q _ => ∃ (s : Addr) (ns : List Int), vs = [.ref s] ∧ SqL K H s (ns.map V.int) ∧ ns.length ≤ 63 ∧ Tabs [(Pt, lamP)] H ∧ ∀ H', Q (.bl true) H'
section
variable {P : Program} {w : World} {K : PySem.W.Frag} {mg : Str → Option Value} {base : Heap} {a : Ad} {Pt : Addr}
theorem ok_law {fd : FuncData} (F : Fun K "law" "law" s_law a.law fd) (T : Txt K mg a)
    {fd__law_places : FuncData} (G__law_places : Fn P w K mg base CX0 1 a._law_places fd__law_places ["_law_script", "_law_most"] (spPlaces K)) (b__law_places : Binds K fd__law_places ["_law_script", "_law_most"] [])
    {fd__law_odd_right : FuncData} (G__law_odd_right : Fn P w K mg base CX0 13 a._law_odd_right fd__law_odd_right ["_law_pot_here"] (spOddR Pt)) (b__law_odd_right : Binds K fd__law_odd_right ["_law_pot_here"] [])
    {fd__law_made_right : FuncData} (G__law_made_right : Fn P w K mg base CX0 10 a._law_made_right fd__law_made_right ["_law_pot_here"] spMade) (b__law_made_right : Binds K fd__law_made_right ["_law_pot_here"] [])
    {fd__law_pot : FuncData} (G__law_pot : Fn P w K mg base CX0 1 a._law_pot fd__law_pot ["_law_script", "_law_k"] (spPot K)) (b__law_pot : Binds K fd__law_pot ["_law_script", "_law_k"] []) :
    Fn P w K mg base CX0 14 a.law fd ["_law_script"] (spLaw K Pt) := by
  refine ok F sc_law (fun vs H Q E h => ?len) (fun cdv A outer s H vs Q E hq hr h => ⟨_,
      (pss_cons (ps_for PassesOwn.never rfl (pi_list (pe_fn G__law_places hq (hr.mono (by omega)) (by rfl) T.g__law_places T.k__law_places b__law_places .nil pass0 (pa_cons (pv 0) (pa_cons pe_int pa_nil)))) (pg_name (i := 1) sc_law.nd rfl (Or.inl rfl)) (pss_cons (ps_set (i := 2) sc_law.nd rfl (Or.inr rfl) (pe_fn G__law_pot hq (hr.mono (by omega)) (by rfl) T.g__law_pot T.k__law_pot b__law_pot .nil pass0 (pa_cons (pv 0) (pa_cons (pv 1) pa_nil))))
      (pss_one (ps_if (PW.pt (pw_or (pt_not (pt_val (pe_callB (cr_all rfl) (by rfl) T.n_all (by decide +kernel) (pa_cons (pe_lc (own := [("_law_turn", 3)]) (g := gName 3) (tt := tYes) rfl sc_law.nd (pi_range1 (by rfl) T.n_range (pa_cons pe_int pa_nil)) (blkOk_by (own := [("_law_turn", 3)]) (N := ["_law_script", "_law_place", "_law_pot_here", "_law_turn"]) (sc := defScope s_law) (by decide +kernel)) (fun _ _ _ _ _ => (pg_name (i := 3) sc_law.nd rfl (Or.inl rfl))) (fun _ _ _ _ _ => pts_nil) (fun _ _ _ _ _ => (pe_fn G__law_made_right hq (hr.mono (by omega)) (by rfl) T.g__law_made_right T.k__law_made_right b__law_made_right .nil pass0 (pa_cons (pv 2) pa_nil)))) pa_nil)))) (pw_or1 (pt_not (pt_val (pe_fn G__law_odd_right hq (hr.mono (by omega)) (by rfl) T.g__law_odd_right T.k__law_odd_right b__law_odd_right .nil pass0 (pa_cons (pv 2) pa_nil))))))) (pss_one (ps_ret pe_bl)) pss_nil))))
      (pss_one (ps_ret pe_bl))), ?body⟩)
  case len => obtain ⟨s, ns, rfl, _⟩ := h; rfl
  case body =>
    obtain ⟨s, ns, rfl, hs, hl, tabs, q⟩ := h
    refine ⟨_, rfl, s, ns, 6, rfl, hs, hl, by decide, by decide, fun l n H1 nl S1 hn hl1 => ?_⟩
    have ln : (rgV 0 n).length = n := by rw [rgV_length]; omega
    refine ⟨l, rfl, ⟨_, SqL.of hl1⟩, for_it (walk_list (xs := rgV 0 n)) (fun i σ H' => ∃ s1 s2 s3, σ = [some (.ref s), s1, s2, s3] ∧ ExtN H1 H' ∧ Tabs [(Pt, lamP)] H') ⟨none, none, none, rfl, ExtN.refl _, Tabs.ext tabs S1⟩ ?_ ?_ ?_⟩
    · rintro i σ H' _ ⟨s1, s2, s3, _, e, _⟩
      exact sql_ext e (SqL.of hl1)
    · rintro i x σ H' H'' hi ⟨s1, s2, s3, rfl, e, tb⟩ ⟨rfl, hx⟩
      obtain ⟨hi1, hi2⟩ := List.getElem?_eq_some_iff.mp hx
      obtain rfl : V.int (0 + (i : Nat)) = x := by
        have z := hx
        unfold rgV at z
        rw [List.getElem?_map, List.getElem?_range (by omega)] at z
        exact Option.some.inj z
      refine ⟨_, rfl, _, rfl, s, ns, 0 + (i : Nat), rfl, sql_ext e (S1.seq hs), hl, by omega, by omega, fun p H2 np S2 pot => ?_⟩
      refine ⟨3, rfl, by decide, by decide, fun D hD => ?_⟩
      have nD : D ≠ p := fun z => pot.has (by rw [← z]; exact hD)
      refine lc_range (fun i H3 => Kp p H2 H3 ∧ H3 D = some (.lst ((List.replicate i true).map V.bl)) ∧ PotAt H3 p (40 * i) ∧ Tabs [(Pt, lamP)] H3)
        ⟨Kp.same (same_new hD), upd_same, pot.same (same_new hD), Tabs.ext (Tabs.ext tb S2) (same_new hD)⟩ ?_ ?_
      · rintro j H3 hj ⟨k3, d3, p3, t3⟩
        refine ⟨rfl, ?_⟩
        refine ⟨_, rfl, p, 40 * j, rfl, p3, by omega, fun H4 g4 => ?_⟩
        have k4 := Kp.go g4
        have t4 := Tabs.go g4 p3 t3
        have p4 := g4.pot
        have d4 := k4.at d3 nD fun _ z => nomatch z
        refine ⟨_, d4, by rw [List.length_map, List.length_replicate, sizeLine_eq]; omega, (k3.trans k4).over hD, ?_, (p4.mono (by omega)).over nD, Tabs.over t4 d4⟩
        rw [upd_same, List.replicate_succ', List.map_append]; rfl
      · rintro H3 ⟨k3, d3, p3, t3⟩
        refine ⟨D, _, rfl, SqL.of d3, _, rfl, ?_⟩
        refine iteF ⟨_, rfl, p, _, rfl, p3, (by omega), t3, fun H4 t4 k4 p4 => ⟨_, rfl, iteF ?_⟩⟩
        refine ⟨_, _, _, rfl, fun b o eb t => ?_, t4⟩
        have eb' := S2 _ _ (e _ _ eb t)
        refine (k3.trans k4).at eb' (fun z => ?_) t
        have ez := e _ _ eb t
        rw [z, np] at ez
        cases ez
    · rintro σ H' ⟨s1, s2, s3, rfl, e, tb⟩
      exact q _
end
end My

namespace My
open PySem PySem.Spec PyProof.Rows L2 G LamX SX NumText
abbrev s_init : Stmt := inClass (topS 3) 0
theorem sc_init : FnScope ["self", "value"] ["self", "value"] (defScope s_init) := ⟨rfl, rfl, rfl, by decide +kernel, rfl, by decide +kernel, by decide +kernel⟩
theorem ok_init {P : Program} {w : World} {K : PySem.W.Frag} {mg : Str → Option Value} {base : Heap} {f : Addr} {fd : FuncData} (F : Fun K "__init__" "AboutError.__init__" s_init f fd) : FnOk P w K mg base CX0 1 f fd ["self", "value"] (spErrInit K) := by
  refine F.ok sc_init (fun vs H Q E h => ?_) (fun cdv A outer s H vs Q E hr h => ?_)
  · obtain ⟨p, C, v, rfl, _⟩ := h
    rfl
  · obtain ⟨p, C, v, rfl, T, nv, hp, q⟩ := h
    exact ⟨_, pss_one (ps_ost (pv 0) (pv 1)), _, rfl, _, rfl, p, C, rfl, T, nv, .inl ⟨hp, fun dx h1 h2 => q dx h1 h2⟩⟩

theorem all_mk {P : Program} {w : World} {K : PySem.W.Frag} {h : Heap} {mg : Str → Option Value} {fa : Addr} (X : K.In h) (G : h.Ns mainGlobals mg) (hfa : mg "law" = some (.ref fa))
    (bare__law_odd_right : Bare mg h "_law_odd_right")
    {tP tF : Tok} {f_Ratio___radd__ f_Ratio___rsub__ f_Ratio___rmul__ : Addr}
    {C_AboutError C_BadNumber C_BadPoint C_Ratio C_Point f_init : Addr}
    {nm_AboutError q_AboutError : Str} {N_AboutError : Addr} {bs_AboutError : List Value} {sn_AboutError : List Str} {sub_AboutError : List Value} {ab_AboutError : Bool} {col_AboutError : Option Bool} {dd_AboutError : Option Addr} {m0_AboutError m1_AboutError m2_AboutError m3_AboutError m5_AboutError : Option Value}
    {nm_BadNumber q_BadNumber : Str} {N_BadNumber : Addr} {bs_BadNumber : List Value} {sn_BadNumber : List Str} {sub_BadNumber : List Value} {ab_BadNumber : Bool} {col_BadNumber : Option Bool} {dd_BadNumber : Option Addr} {m0_BadNumber m1_BadNumber m2_BadNumber m3_BadNumber m5_BadNumber : Option Value}
    {nm_BadPoint q_BadPoint : Str} {N_BadPoint : Addr} {bs_BadPoint : List Value} {sn_BadPoint : List Str} {sub_BadPoint : List Value} {ab_BadPoint : Bool} {col_BadPoint : Option Bool} {dd_BadPoint : Option Addr} {m0_BadPoint m1_BadPoint m2_BadPoint m3_BadPoint m5_BadPoint : Option Value}
    {od_init an_init : Option Addr} {sl_init : Array (Option Value)} {oc_init kV_init dc_init pm_init cd_init ct_init : Value}
    {f__law_told : Addr}
    {od__law_told an__law_told : Option Addr} {sl__law_told : Array (Option Value)} {oc__law_told kV__law_told dc__law_told pm__law_told cd__law_told ct__law_told : Value}
    {f__law_pot : Addr}
    {od__law_pot an__law_pot : Option Addr} {sl__law_pot : Array (Option Value)} {oc__law_pot kV__law_pot dc__law_pot pm__law_pot cd__law_pot ct__law_pot : Value}
    {f__law_take : Addr}
    {od__law_take an__law_take : Option Addr} {sl__law_take : Array (Option Value)} {oc__law_take kV__law_take dc__law_take pm__law_take cd__law_take ct__law_take : Value}
    {f__law_of : Addr}
    {od__law_of an__law_of : Option Addr} {sl__law_of : Array (Option Value)} {oc__law_of kV__law_of dc__law_of pm__law_of cd__law_of ct__law_of : Value}
    {f__law_places : Addr}
    {od__law_places an__law_places : Option Addr} {sl__law_places : Array (Option Value)} {oc__law_places kV__law_places dc__law_places pm__law_places cd__law_places ct__law_places : Value}
    {f_is_integer : Addr}
    {od_is_integer an_is_integer : Option Addr} {sl_is_integer : Array (Option Value)} {oc_is_integer kV_is_integer dc_is_integer pm_is_integer cd_is_integer ct_is_integer : Value}
    {f_is_number : Addr}
    {od_is_number an_is_number : Option Addr} {sl_is_number : Array (Option Value)} {oc_is_number kV_is_number dc_is_number pm_is_number cd_is_number ct_is_number : Value}
    {f_Ratio___init__ : Addr}
    {od_Ratio___init__ an_Ratio___init__ : Option Addr} {sl_Ratio___init__ : Array (Option Value)} {oc_Ratio___init__ kV_Ratio___init__ dc_Ratio___init__ pm_Ratio___init__ cd_Ratio___init__ ct_Ratio___init__ : Value}
    {dT_Ratio___init__ : Addr} {cT_Ratio___init__ : Value} {eT_Ratio___init__ : Option Addr} {its_Ratio___init__ : List Value} {mT_Ratio___init__ : Nat} {sT_Ratio___init__ : Array (Option Value)}
    {f_as_ratio : Addr}
    {od_as_ratio an_as_ratio : Option Addr} {sl_as_ratio : Array (Option Value)} {oc_as_ratio kV_as_ratio dc_as_ratio pm_as_ratio cd_as_ratio ct_as_ratio : Value}
    {f_difference : Addr}
    {od_difference an_difference : Option Addr} {sl_difference : Array (Option Value)} {oc_difference kV_difference dc_difference pm_difference cd_difference ct_difference : Value}
    {f_Ratio___add__ : Addr}
    {od_Ratio___add__ an_Ratio___add__ : Option Addr} {sl_Ratio___add__ : Array (Option Value)} {oc_Ratio___add__ kV_Ratio___add__ dc_Ratio___add__ pm_Ratio___add__ cd_Ratio___add__ ct_Ratio___add__ : Value}
    {f_Ratio___sub__ : Addr}
    {od_Ratio___sub__ an_Ratio___sub__ : Option Addr} {sl_Ratio___sub__ : Array (Option Value)} {oc_Ratio___sub__ kV_Ratio___sub__ dc_Ratio___sub__ pm_Ratio___sub__ cd_Ratio___sub__ ct_Ratio___sub__ : Value}
    {f_Ratio___mul__ : Addr}
    {od_Ratio___mul__ an_Ratio___mul__ : Option Addr} {sl_Ratio___mul__ : Array (Option Value)} {oc_Ratio___mul__ kV_Ratio___mul__ dc_Ratio___mul__ pm_Ratio___mul__ cd_Ratio___mul__ ct_Ratio___mul__ : Value}
    {f_Ratio___eq__ : Addr}
    {od_Ratio___eq__ an_Ratio___eq__ : Option Addr} {sl_Ratio___eq__ : Array (Option Value)} {oc_Ratio___eq__ kV_Ratio___eq__ dc_Ratio___eq__ pm_Ratio___eq__ cd_Ratio___eq__ ct_Ratio___eq__ : Value}
    {f__law_common : Addr}
    {od__law_common an__law_common : Option Addr} {sl__law_common : Array (Option Value)} {oc__law_common kV__law_common dc__law_common pm__law_common cd__law_common ct__law_common : Value}
    {f__law_pair : Addr}
    {od__law_pair an__law_pair : Option Addr} {sl__law_pair : Array (Option Value)} {oc__law_pair kV__law_pair dc__law_pair pm__law_pair cd__law_pair ct__law_pair : Value}
    {f__law_pair_of : Addr}
    {od__law_pair_of an__law_pair_of : Option Addr} {sl__law_pair_of : Array (Option Value)} {oc__law_pair_of kV__law_pair_of dc__law_pair_of pm__law_pair_of cd__law_pair_of ct__law_pair_of : Value}
    {f__law_odd : Addr}
    {od__law_odd an__law_odd : Option Addr} {sl__law_odd : Array (Option Value)} {oc__law_odd kV__law_odd dc__law_odd pm__law_odd cd__law_odd ct__law_odd : Value}
    {f_written : Addr}
    {od_written an_written : Option Addr} {sl_written : Array (Option Value)} {oc_written kV_written dc_written pm_written cd_written ct_written : Value}
    {f__has_figures_alone : Addr}
    {od__has_figures_alone an__has_figures_alone : Option Addr} {sl__has_figures_alone : Array (Option Value)} {oc__has_figures_alone kV__has_figures_alone dc__has_figures_alone pm__has_figures_alone cd__has_figures_alone ct__has_figures_alone : Value}
    {f__worth : Addr}
    {od__worth an__worth : Option Addr} {sl__worth : Array (Option Value)} {oc__worth kV__worth dc__worth pm__worth cd__worth ct__worth : Value}
    {f_Ratio_text : Addr}
    {pr_Ratio : Addr} {rs_Ratio : List Value}
    {od_Ratio_text an_Ratio_text : Option Addr} {sl_Ratio_text : Array (Option Value)} {oc_Ratio_text kV_Ratio_text dc_Ratio_text pm_Ratio_text cd_Ratio_text ct_Ratio_text : Value}
    {f_read_ratio : Addr}
    {od_read_ratio an_read_ratio : Option Addr} {sl_read_ratio : Array (Option Value)} {oc_read_ratio kV_read_ratio dc_read_ratio pm_read_ratio cd_read_ratio ct_read_ratio : Value}
    {f_check_point : Addr}
    {od_check_point an_check_point : Option Addr} {sl_check_point : Array (Option Value)} {oc_check_point kV_check_point dc_check_point pm_check_point cd_check_point ct_check_point : Value}
    {f_Point___init__ : Addr}
    {od_Point___init__ an_Point___init__ : Option Addr} {sl_Point___init__ : Array (Option Value)} {oc_Point___init__ kV_Point___init__ dc_Point___init__ pm_Point___init__ cd_Point___init__ ct_Point___init__ : Value}
    {f_read_point : Addr}
    {od_read_point an_read_point : Option Addr} {sl_read_point : Array (Option Value)} {oc_read_point kV_read_point dc_read_point pm_read_point cd_read_point ct_read_point : Value}
    {f_Point_text : Addr}
    {pr_Point : Addr} {rs_Point : List Value}
    {od_Point_text an_Point_text : Option Addr} {sl_Point_text : Array (Option Value)} {oc_Point_text kV_Point_text dc_Point_text pm_Point_text cd_Point_text ct_Point_text : Value}
    {f_Point_of : Addr}
    {ps_Point : Addr} {ss_Point : List Value}
    {od_Point_of an_Point_of : Option Addr} {sl_Point_of : Array (Option Value)} {oc_Point_of kV_Point_of dc_Point_of pm_Point_of cd_Point_of ct_Point_of : Value}
    {f_Point___eq__ : Addr}
    {od_Point___eq__ an_Point___eq__ : Option Addr} {sl_Point___eq__ : Array (Option Value)} {oc_Point___eq__ kV_Point___eq__ dc_Point___eq__ pm_Point___eq__ cd_Point___eq__ ct_Point___eq__ : Value}
    {f_Point___add__ : Addr}
    {od_Point___add__ an_Point___add__ : Option Addr} {sl_Point___add__ : Array (Option Value)} {oc_Point___add__ kV_Point___add__ dc_Point___add__ pm_Point___add__ cd_Point___add__ ct_Point___add__ : Value}
    {f_Point___sub__ : Addr}
    {od_Point___sub__ an_Point___sub__ : Option Addr} {sl_Point___sub__ : Array (Option Value)} {oc_Point___sub__ kV_Point___sub__ dc_Point___sub__ pm_Point___sub__ cd_Point___sub__ ct_Point___sub__ : Value}
    {f_Point_towards : Addr}
    {od_Point_towards an_Point_towards : Option Addr} {sl_Point_towards : Array (Option Value)} {oc_Point_towards kV_Point_towards dc_Point_towards pm_Point_towards cd_Point_towards ct_Point_towards : Value}
    {f__law_ratio_text : Addr}
    {od__law_ratio_text an__law_ratio_text : Option Addr} {sl__law_ratio_text : Array (Option Value)} {oc__law_ratio_text kV__law_ratio_text dc__law_ratio_text pm__law_ratio_text cd__law_ratio_text ct__law_ratio_text : Value}
    {f__law_is_int : Addr}
    {od__law_is_int an__law_is_int : Option Addr} {sl__law_is_int : Array (Option Value)} {oc__law_is_int kV__law_is_int dc__law_is_int pm__law_is_int cd__law_is_int ct__law_is_int : Value}
    {f__law_drawn : Addr}
    {od__law_drawn an__law_drawn : Option Addr} {sl__law_drawn : Array (Option Value)} {oc__law_drawn kV__law_drawn dc__law_drawn pm__law_drawn cd__law_drawn ct__law_drawn : Value}
    {f__law_with : Addr}
    {od__law_with an__law_with : Option Addr} {sl__law_with : Array (Option Value)} {oc__law_with kV__law_with dc__law_with pm__law_with cd__law_with ct__law_with : Value}
    {f__law_number : Addr}
    {od__law_number an__law_number : Option Addr} {sl__law_number : Array (Option Value)} {oc__law_number kV__law_number dc__law_number pm__law_number cd__law_number ct__law_number : Value}
    {f__law_point : Addr}
    {od__law_point an__law_point : Option Addr} {sl__law_point : Array (Option Value)} {oc__law_point kV__law_point dc__law_point pm__law_point cd__law_point ct__law_point : Value}
    {f__law_is_at : Addr}
    {od__law_is_at an__law_is_at : Option Addr} {sl__law_is_at : Array (Option Value)} {oc__law_is_at kV__law_is_at dc__law_is_at pm__law_is_at cd__law_is_at ct__law_is_at : Value}
    {f__law_made_right : Addr}
    {od__law_made_right an__law_made_right : Option Addr} {sl__law_made_right : Array (Option Value)} {oc__law_made_right kV__law_made_right dc__law_made_right pm__law_made_right cd__law_made_right ct__law_made_right : Value}
    {f__law_odd_right : Addr}
    {od__law_odd_right an__law_odd_right : Option Addr} {sl__law_odd_right : Array (Option Value)} {oc__law_odd_right kV__law_odd_right dc__law_odd_right pm__law_odd_right  ct__law_odd_right : Value}
    {cA__law_odd_right Pt__law_odd_right : Addr} {eC__law_odd_right : Value} {dC__law_odd_right : Option Addr} {vC__law_odd_right : Array Value} {sC__law_odd_right : Array (Option Value)}
    {f_law : Addr}
    {od_law an_law : Option Addr} {sl_law : Array (Option Value)} {oc_law kV_law dc_law pm_law cd_law ct_law : Value}
    (n_abs : PySem.W.nsIn K mainGlobals "abs" = some none)
    (n_all : PySem.W.nsIn K mainGlobals "all" = some none)
    (n_bool : PySem.W.nsIn K mainGlobals "bool" = some none)
    (n_int : PySem.W.nsIn K mainGlobals "int" = some none)
    (n_isinstance : PySem.W.nsIn K mainGlobals "isinstance" = some none)
    (n_len : PySem.W.nsIn K mainGlobals "len" = some none)
    (n_list : PySem.W.nsIn K mainGlobals "list" = some none)
    (n_max : PySem.W.nsIn K mainGlobals "max" = some none)
    (n_min : PySem.W.nsIn K mainGlobals "min" = some none)
    (n_range : PySem.W.nsIn K mainGlobals "range" = some none)
    (n_repr : PySem.W.nsIn K mainGlobals "repr" = some none)
    (n_divmod : PySem.W.nsIn K mainGlobals "divmod" = some none)
    (n_str : PySem.W.nsIn K mainGlobals "str" = some none)
    (n_zip : PySem.W.nsIn K mainGlobals "zip" = some none)
    (gP : PySem.W.nsIn K mainGlobals "_PART" = some (some (.int 10000000000000000000000000000000000000000000000000000000000000000 tP)))
    (gF : PySem.W.nsIn K mainGlobals "_FIGURES" = some (some (.int 64 tF)))
    (gG : PySem.W.nsIn K mainGlobals "gcd" = some (some (.builtin "math.gcd")))
    (g_AboutError : PySem.W.nsIn K mainGlobals "AboutError" = some (some (.ref C_AboutError)))
    (g_BadNumber : PySem.W.nsIn K mainGlobals "BadNumber" = some (some (.ref C_BadNumber)))
    (g_BadPoint : PySem.W.nsIn K mainGlobals "BadPoint" = some (some (.ref C_BadPoint)))
    (x_AboutError : K.lookup C_AboutError = some (excClassObj nm_AboutError q_AboutError C_AboutError N_AboutError bs_AboutError [.type "ValueError", .type "Exception", .type "BaseException", .type "object"] true sn_AboutError sub_AboutError ab_AboutError col_AboutError dd_AboutError m0_AboutError m1_AboutError m2_AboutError m3_AboutError m5_AboutError "ValueError.__new__"))
    (x_BadNumber : K.lookup C_BadNumber = some (excClassObj nm_BadNumber q_BadNumber C_BadNumber N_BadNumber bs_BadNumber (.ref C_AboutError :: [.type "ValueError", .type "Exception", .type "BaseException", .type "object"]) true sn_BadNumber sub_BadNumber ab_BadNumber col_BadNumber dd_BadNumber m0_BadNumber m1_BadNumber m2_BadNumber m3_BadNumber m5_BadNumber "ValueError.__new__"))
    (x_BadPoint : K.lookup C_BadPoint = some (excClassObj nm_BadPoint q_BadPoint C_BadPoint N_BadPoint bs_BadPoint (.ref C_AboutError :: [.type "ValueError", .type "Exception", .type "BaseException", .type "object"]) true sn_BadPoint sub_BadPoint ab_BadPoint col_BadPoint dd_BadPoint m0_BadPoint m1_BadPoint m2_BadPoint m3_BadPoint m5_BadPoint "ValueError.__new__"))
    (i0 : PySem.W.findIn K (.ref C_AboutError) "__init__" = some (some (.ref f_init)))
    (tI : PySem.W.typeIn K (.ref f_init) = some (.type "function"))
    (sp : PySem.W.specialIn K (.builtin "object.__class__") "__get__" = some (some (.builtin "getset_descriptor.__get__")))
    (tk : PySem.W.takesIn K (.builtin "object.__class__") = some true)
    (eb : ([C_AboutError, C_BadNumber, C_BadPoint].all fun C => ecB K f_init C) = true)
    (g_Ratio : PySem.W.nsIn K mainGlobals "Ratio" = some (some (.ref C_Ratio)))
    (g_Point : PySem.W.nsIn K mainGlobals "Point" = some (some (.ref C_Point)))
    (l_init : K.lookup f_init = some ⟨oc_init, od_init, .func (PySem.W.fnOf "__init__" "AboutError.__init__" (defArgs s_init) (defBody s_init) (defScope s_init) .none kV_init dc_init pm_init an_init cd_init ct_init), sl_init⟩)
    (c_init : PySem.W.codeIn K cd_init "AboutError.__init__" = true)
    (k_init : PySem.W.keepIn K (.ref f_init) = true)
    (g__law_told : PySem.W.nsIn K mainGlobals "_law_told" = some (some (.ref f__law_told)))
    (l__law_told : K.lookup f__law_told = some ⟨oc__law_told, od__law_told, .func (PySem.W.fnOf "_law_told" "_law_told" (defArgs s__law_told) (defBody s__law_told) (defScope s__law_told) .none kV__law_told dc__law_told pm__law_told an__law_told cd__law_told ct__law_told), sl__law_told⟩)
    (c__law_told : PySem.W.codeIn K cd__law_told "_law_told" = true)
    (k__law_told : PySem.W.keepIn K (.ref f__law_told) = true)
    (g__law_pot : PySem.W.nsIn K mainGlobals "_law_pot" = some (some (.ref f__law_pot)))
    (l__law_pot : K.lookup f__law_pot = some ⟨oc__law_pot, od__law_pot, .func (PySem.W.fnOf "_law_pot" "_law_pot" (defArgs s__law_pot) (defBody s__law_pot) (defScope s__law_pot) .none kV__law_pot dc__law_pot pm__law_pot an__law_pot cd__law_pot ct__law_pot), sl__law_pot⟩)
    (c__law_pot : PySem.W.codeIn K cd__law_pot "_law_pot" = true)
    (k__law_pot : PySem.W.keepIn K (.ref f__law_pot) = true)
    (g__law_take : PySem.W.nsIn K mainGlobals "_law_take" = some (some (.ref f__law_take)))
    (l__law_take : K.lookup f__law_take = some ⟨oc__law_take, od__law_take, .func (PySem.W.fnOf "_law_take" "_law_take" (defArgs s__law_take) (defBody s__law_take) (defScope s__law_take) .none kV__law_take dc__law_take pm__law_take an__law_take cd__law_take ct__law_take), sl__law_take⟩)
    (c__law_take : PySem.W.codeIn K cd__law_take "_law_take" = true)
    (k__law_take : PySem.W.keepIn K (.ref f__law_take) = true)
    (g__law_of : PySem.W.nsIn K mainGlobals "_law_of" = some (some (.ref f__law_of)))
    (l__law_of : K.lookup f__law_of = some ⟨oc__law_of, od__law_of, .func (PySem.W.fnOf "_law_of" "_law_of" (defArgs s__law_of) (defBody s__law_of) (defScope s__law_of) .none kV__law_of dc__law_of pm__law_of an__law_of cd__law_of ct__law_of), sl__law_of⟩)
    (c__law_of : PySem.W.codeIn K cd__law_of "_law_of" = true)
    (k__law_of : PySem.W.keepIn K (.ref f__law_of) = true)
    (g__law_places : PySem.W.nsIn K mainGlobals "_law_places" = some (some (.ref f__law_places)))
    (l__law_places : K.lookup f__law_places = some ⟨oc__law_places, od__law_places, .func (PySem.W.fnOf "_law_places" "_law_places" (defArgs s__law_places) (defBody s__law_places) (defScope s__law_places) .none kV__law_places dc__law_places pm__law_places an__law_places cd__law_places ct__law_places), sl__law_places⟩)
    (c__law_places : PySem.W.codeIn K cd__law_places "_law_places" = true)
    (k__law_places : PySem.W.keepIn K (.ref f__law_places) = true)
    (g_is_integer : PySem.W.nsIn K mainGlobals "is_integer" = some (some (.ref f_is_integer)))
    (l_is_integer : K.lookup f_is_integer = some ⟨oc_is_integer, od_is_integer, .func (PySem.W.fnOf "is_integer" "is_integer" (defArgs s_is_integer) (defBody s_is_integer) (defScope s_is_integer) .none kV_is_integer dc_is_integer pm_is_integer an_is_integer cd_is_integer ct_is_integer), sl_is_integer⟩)
    (c_is_integer : PySem.W.codeIn K cd_is_integer "is_integer" = true)
    (k_is_integer : PySem.W.keepIn K (.ref f_is_integer) = true)
    (g_is_number : PySem.W.nsIn K mainGlobals "is_number" = some (some (.ref f_is_number)))
    (l_is_number : K.lookup f_is_number = some ⟨oc_is_number, od_is_number, .func (PySem.W.fnOf "is_number" "is_number" (defArgs s_is_number) (defBody s_is_number) (defScope s_is_number) .none kV_is_number dc_is_number pm_is_number an_is_number cd_is_number ct_is_number), sl_is_number⟩)
    (c_is_number : PySem.W.codeIn K cd_is_number "is_number" = true)
    (k_is_number : PySem.W.keepIn K (.ref f_is_number) = true)
    (g_Ratio___init__ : PySem.W.findIn K (.ref C_Ratio) "__init__" = some (some (.ref f_Ratio___init__)))
    (l_Ratio___init__ : K.lookup f_Ratio___init__ = some ⟨oc_Ratio___init__, od_Ratio___init__, .func (PySem.W.fnOf "__init__" "Ratio.__init__" (defArgs s_Ratio___init__) (defBody s_Ratio___init__) (defScope s_Ratio___init__) (.ref dT_Ratio___init__) kV_Ratio___init__ dc_Ratio___init__ pm_Ratio___init__ an_Ratio___init__ cd_Ratio___init__ ct_Ratio___init__), sl_Ratio___init__⟩)
    (c_Ratio___init__ : PySem.W.codeIn K cd_Ratio___init__ "Ratio.__init__" = true)
    (k_Ratio___init__ : PySem.W.keepIn K (.ref f_Ratio___init__) = true)
    (d_Ratio___init__ : K.lookup dT_Ratio___init__ = some ⟨cT_Ratio___init__, eT_Ratio___init__, .seq its_Ratio___init__.toArray mT_Ratio___init__, sT_Ratio___init__⟩)
    (r_Ratio___init__ : Vals [.int 1] its_Ratio___init__)
    (g_as_ratio : PySem.W.nsIn K mainGlobals "as_ratio" = some (some (.ref f_as_ratio)))
    (l_as_ratio : K.lookup f_as_ratio = some ⟨oc_as_ratio, od_as_ratio, .func (PySem.W.fnOf "as_ratio" "as_ratio" (defArgs s_as_ratio) (defBody s_as_ratio) (defScope s_as_ratio) .none kV_as_ratio dc_as_ratio pm_as_ratio an_as_ratio cd_as_ratio ct_as_ratio), sl_as_ratio⟩)
    (c_as_ratio : PySem.W.codeIn K cd_as_ratio "as_ratio" = true)
    (k_as_ratio : PySem.W.keepIn K (.ref f_as_ratio) = true)
    (g_difference : PySem.W.nsIn K mainGlobals "difference" = some (some (.ref f_difference)))
    (l_difference : K.lookup f_difference = some ⟨oc_difference, od_difference, .func (PySem.W.fnOf "difference" "difference" (defArgs s_difference) (defBody s_difference) (defScope s_difference) .none kV_difference dc_difference pm_difference an_difference cd_difference ct_difference), sl_difference⟩)
    (c_difference : PySem.W.codeIn K cd_difference "difference" = true)
    (k_difference : PySem.W.keepIn K (.ref f_difference) = true)
    (g_Ratio___add__ : PySem.W.findIn K (.ref C_Ratio) "__add__" = some (some (.ref f_Ratio___add__)))
    (l_Ratio___add__ : K.lookup f_Ratio___add__ = some ⟨oc_Ratio___add__, od_Ratio___add__, .func (PySem.W.fnOf "__add__" "Ratio.__add__" (defArgs s_Ratio___add__) (defBody s_Ratio___add__) (defScope s_Ratio___add__) .none kV_Ratio___add__ dc_Ratio___add__ pm_Ratio___add__ an_Ratio___add__ cd_Ratio___add__ ct_Ratio___add__), sl_Ratio___add__⟩)
    (c_Ratio___add__ : PySem.W.codeIn K cd_Ratio___add__ "Ratio.__add__" = true)
    (k_Ratio___add__ : PySem.W.keepIn K (.ref f_Ratio___add__) = true)
    (g_Ratio___sub__ : PySem.W.findIn K (.ref C_Ratio) "__sub__" = some (some (.ref f_Ratio___sub__)))
    (l_Ratio___sub__ : K.lookup f_Ratio___sub__ = some ⟨oc_Ratio___sub__, od_Ratio___sub__, .func (PySem.W.fnOf "__sub__" "Ratio.__sub__" (defArgs s_Ratio___sub__) (defBody s_Ratio___sub__) (defScope s_Ratio___sub__) .none kV_Ratio___sub__ dc_Ratio___sub__ pm_Ratio___sub__ an_Ratio___sub__ cd_Ratio___sub__ ct_Ratio___sub__), sl_Ratio___sub__⟩)
    (c_Ratio___sub__ : PySem.W.codeIn K cd_Ratio___sub__ "Ratio.__sub__" = true)
    (k_Ratio___sub__ : PySem.W.keepIn K (.ref f_Ratio___sub__) = true)
    (g_Ratio___mul__ : PySem.W.findIn K (.ref C_Ratio) "__mul__" = some (some (.ref f_Ratio___mul__)))
    (l_Ratio___mul__ : K.lookup f_Ratio___mul__ = some ⟨oc_Ratio___mul__, od_Ratio___mul__, .func (PySem.W.fnOf "__mul__" "Ratio.__mul__" (defArgs s_Ratio___mul__) (defBody s_Ratio___mul__) (defScope s_Ratio___mul__) .none kV_Ratio___mul__ dc_Ratio___mul__ pm_Ratio___mul__ an_Ratio___mul__ cd_Ratio___mul__ ct_Ratio___mul__), sl_Ratio___mul__⟩)
    (c_Ratio___mul__ : PySem.W.codeIn K cd_Ratio___mul__ "Ratio.__mul__" = true)
    (k_Ratio___mul__ : PySem.W.keepIn K (.ref f_Ratio___mul__) = true)
    (g_Ratio___eq__ : PySem.W.findIn K (.ref C_Ratio) "__eq__" = some (some (.ref f_Ratio___eq__)))
    (l_Ratio___eq__ : K.lookup f_Ratio___eq__ = some ⟨oc_Ratio___eq__, od_Ratio___eq__, .func (PySem.W.fnOf "__eq__" "Ratio.__eq__" (defArgs s_Ratio___eq__) (defBody s_Ratio___eq__) (defScope s_Ratio___eq__) .none kV_Ratio___eq__ dc_Ratio___eq__ pm_Ratio___eq__ an_Ratio___eq__ cd_Ratio___eq__ ct_Ratio___eq__), sl_Ratio___eq__⟩)
    (c_Ratio___eq__ : PySem.W.codeIn K cd_Ratio___eq__ "Ratio.__eq__" = true)
    (k_Ratio___eq__ : PySem.W.keepIn K (.ref f_Ratio___eq__) = true)
    (g__law_common : PySem.W.nsIn K mainGlobals "_law_common" = some (some (.ref f__law_common)))
    (l__law_common : K.lookup f__law_common = some ⟨oc__law_common, od__law_common, .func (PySem.W.fnOf "_law_common" "_law_common" (defArgs s__law_common) (defBody s__law_common) (defScope s__law_common) .none kV__law_common dc__law_common pm__law_common an__law_common cd__law_common ct__law_common), sl__law_common⟩)
    (c__law_common : PySem.W.codeIn K cd__law_common "_law_common" = true)
    (k__law_common : PySem.W.keepIn K (.ref f__law_common) = true)
    (g__law_pair : PySem.W.nsIn K mainGlobals "_law_pair" = some (some (.ref f__law_pair)))
    (l__law_pair : K.lookup f__law_pair = some ⟨oc__law_pair, od__law_pair, .func (PySem.W.fnOf "_law_pair" "_law_pair" (defArgs s__law_pair) (defBody s__law_pair) (defScope s__law_pair) .none kV__law_pair dc__law_pair pm__law_pair an__law_pair cd__law_pair ct__law_pair), sl__law_pair⟩)
    (c__law_pair : PySem.W.codeIn K cd__law_pair "_law_pair" = true)
    (k__law_pair : PySem.W.keepIn K (.ref f__law_pair) = true)
    (g__law_pair_of : PySem.W.nsIn K mainGlobals "_law_pair_of" = some (some (.ref f__law_pair_of)))
    (l__law_pair_of : K.lookup f__law_pair_of = some ⟨oc__law_pair_of, od__law_pair_of, .func (PySem.W.fnOf "_law_pair_of" "_law_pair_of" (defArgs s__law_pair_of) (defBody s__law_pair_of) (defScope s__law_pair_of) .none kV__law_pair_of dc__law_pair_of pm__law_pair_of an__law_pair_of cd__law_pair_of ct__law_pair_of), sl__law_pair_of⟩)
    (c__law_pair_of : PySem.W.codeIn K cd__law_pair_of "_law_pair_of" = true)
    (k__law_pair_of : PySem.W.keepIn K (.ref f__law_pair_of) = true)
    (g__law_odd : PySem.W.nsIn K mainGlobals "_law_odd" = some (some (.ref f__law_odd)))
    (l__law_odd : K.lookup f__law_odd = some ⟨oc__law_odd, od__law_odd, .func (PySem.W.fnOf "_law_odd" "_law_odd" (defArgs s__law_odd) (defBody s__law_odd) (defScope s__law_odd) .none kV__law_odd dc__law_odd pm__law_odd an__law_odd cd__law_odd ct__law_odd), sl__law_odd⟩)
    (c__law_odd : PySem.W.codeIn K cd__law_odd "_law_odd" = true)
    (k__law_odd : PySem.W.keepIn K (.ref f__law_odd) = true)
    (g_written : PySem.W.nsIn K mainGlobals "written" = some (some (.ref f_written)))
    (l_written : K.lookup f_written = some ⟨oc_written, od_written, .func (PySem.W.fnOf "written" "written" (defArgs s_written) (defBody s_written) (defScope s_written) .none kV_written dc_written pm_written an_written cd_written ct_written), sl_written⟩)
    (c_written : PySem.W.codeIn K cd_written "written" = true)
    (k_written : PySem.W.keepIn K (.ref f_written) = true)
    (g__has_figures_alone : PySem.W.nsIn K mainGlobals "_has_figures_alone" = some (some (.ref f__has_figures_alone)))
    (l__has_figures_alone : K.lookup f__has_figures_alone = some ⟨oc__has_figures_alone, od__has_figures_alone, .func (PySem.W.fnOf "_has_figures_alone" "_has_figures_alone" (defArgs s__has_figures_alone) (defBody s__has_figures_alone) (defScope s__has_figures_alone) .none kV__has_figures_alone dc__has_figures_alone pm__has_figures_alone an__has_figures_alone cd__has_figures_alone ct__has_figures_alone), sl__has_figures_alone⟩)
    (c__has_figures_alone : PySem.W.codeIn K cd__has_figures_alone "_has_figures_alone" = true)
    (k__has_figures_alone : PySem.W.keepIn K (.ref f__has_figures_alone) = true)
    (g__worth : PySem.W.nsIn K mainGlobals "_worth" = some (some (.ref f__worth)))
    (l__worth : K.lookup f__worth = some ⟨oc__worth, od__worth, .func (PySem.W.fnOf "_worth" "_worth" (defArgs s__worth) (defBody s__worth) (defScope s__worth) .none kV__worth dc__worth pm__worth an__worth cd__worth ct__worth), sl__worth⟩)
    (c__worth : PySem.W.codeIn K cd__worth "_worth" = true)
    (k__worth : PySem.W.keepIn K (.ref f__worth) = true)
    (pa_Ratio : PySem.W.findIn K (.ref C_Ratio) "text" = some (some (.ref pr_Ratio)))
    (pb_Ratio : PySem.W.specialIn K (.ref pr_Ratio) "__get__" = some (some (.builtin "property.__get__")))
    (pc_Ratio : PySem.W.takesIn K (.ref pr_Ratio) = some true)
    (pd_Ratio : PySem.W.recIn K pr_Ratio "property" = some (.ref f_Ratio_text :: rs_Ratio))
    (l_Ratio_text : K.lookup f_Ratio_text = some ⟨oc_Ratio_text, od_Ratio_text, .func (PySem.W.fnOf "text" "Ratio.text" (defArgs s_Ratio_text) (defBody s_Ratio_text) (defScope s_Ratio_text) .none kV_Ratio_text dc_Ratio_text pm_Ratio_text an_Ratio_text cd_Ratio_text ct_Ratio_text), sl_Ratio_text⟩)
    (c_Ratio_text : PySem.W.codeIn K cd_Ratio_text "Ratio.text" = true)
    (k_Ratio_text : PySem.W.keepIn K (.ref f_Ratio_text) = true)
    (g_read_ratio : PySem.W.nsIn K mainGlobals "read_ratio" = some (some (.ref f_read_ratio)))
    (l_read_ratio : K.lookup f_read_ratio = some ⟨oc_read_ratio, od_read_ratio, .func (PySem.W.fnOf "read_ratio" "read_ratio" (defArgs s_read_ratio) (defBody s_read_ratio) (defScope s_read_ratio) .none kV_read_ratio dc_read_ratio pm_read_ratio an_read_ratio cd_read_ratio ct_read_ratio), sl_read_ratio⟩)
    (c_read_ratio : PySem.W.codeIn K cd_read_ratio "read_ratio" = true)
    (k_read_ratio : PySem.W.keepIn K (.ref f_read_ratio) = true)
    (g_check_point : PySem.W.nsIn K mainGlobals "check_point" = some (some (.ref f_check_point)))
    (l_check_point : K.lookup f_check_point = some ⟨oc_check_point, od_check_point, .func (PySem.W.fnOf "check_point" "check_point" (defArgs s_check_point) (defBody s_check_point) (defScope s_check_point) .none kV_check_point dc_check_point pm_check_point an_check_point cd_check_point ct_check_point), sl_check_point⟩)
    (c_check_point : PySem.W.codeIn K cd_check_point "check_point" = true)
    (k_check_point : PySem.W.keepIn K (.ref f_check_point) = true)
    (g_Point___init__ : PySem.W.findIn K (.ref C_Point) "__init__" = some (some (.ref f_Point___init__)))
    (l_Point___init__ : K.lookup f_Point___init__ = some ⟨oc_Point___init__, od_Point___init__, .func (PySem.W.fnOf "__init__" "Point.__init__" (defArgs s_Point___init__) (defBody s_Point___init__) (defScope s_Point___init__) .none kV_Point___init__ dc_Point___init__ pm_Point___init__ an_Point___init__ cd_Point___init__ ct_Point___init__), sl_Point___init__⟩)
    (c_Point___init__ : PySem.W.codeIn K cd_Point___init__ "Point.__init__" = true)
    (k_Point___init__ : PySem.W.keepIn K (.ref f_Point___init__) = true)
    (g_read_point : PySem.W.nsIn K mainGlobals "read_point" = some (some (.ref f_read_point)))
    (l_read_point : K.lookup f_read_point = some ⟨oc_read_point, od_read_point, .func (PySem.W.fnOf "read_point" "read_point" (defArgs s_read_point) (defBody s_read_point) (defScope s_read_point) .none kV_read_point dc_read_point pm_read_point an_read_point cd_read_point ct_read_point), sl_read_point⟩)
    (c_read_point : PySem.W.codeIn K cd_read_point "read_point" = true)
    (k_read_point : PySem.W.keepIn K (.ref f_read_point) = true)
    (pa_Point : PySem.W.findIn K (.ref C_Point) "text" = some (some (.ref pr_Point)))
    (pb_Point : PySem.W.specialIn K (.ref pr_Point) "__get__" = some (some (.builtin "property.__get__")))
    (pc_Point : PySem.W.takesIn K (.ref pr_Point) = some true)
    (pd_Point : PySem.W.recIn K pr_Point "property" = some (.ref f_Point_text :: rs_Point))
    (l_Point_text : K.lookup f_Point_text = some ⟨oc_Point_text, od_Point_text, .func (PySem.W.fnOf "text" "Point.text" (defArgs s_Point_text) (defBody s_Point_text) (defScope s_Point_text) .none kV_Point_text dc_Point_text pm_Point_text an_Point_text cd_Point_text ct_Point_text), sl_Point_text⟩)
    (c_Point_text : PySem.W.codeIn K cd_Point_text "Point.text" = true)
    (k_Point_text : PySem.W.keepIn K (.ref f_Point_text) = true)
    (sc_Point : PySem.W.readsIn K C_Point (.type "type") = true)
    (sd_Point : PySem.W.specialIn K (.ref C_Point) "__getattribute__" = some (some (.builtin "type.__getattribute__")))
    (sa_Point : PySem.W.findCls K (.ref C_Point) (.type "type") "of" = some (.get (.builtin "staticmethod.__get__") (.ref ps_Point) .none (.ref C_Point)))
    (sb_Point : PySem.W.recIn K ps_Point "staticmethod" = some (.ref f_Point_of :: ss_Point))
    (l_Point_of : K.lookup f_Point_of = some ⟨oc_Point_of, od_Point_of, .func (PySem.W.fnOf "of" "Point.of" (defArgs s_Point_of) (defBody s_Point_of) (defScope s_Point_of) .none kV_Point_of dc_Point_of pm_Point_of an_Point_of cd_Point_of ct_Point_of), sl_Point_of⟩)
    (c_Point_of : PySem.W.codeIn K cd_Point_of "Point.of" = true)
    (k_Point_of : PySem.W.keepIn K (.ref f_Point_of) = true)
    (g_Point___eq__ : PySem.W.findIn K (.ref C_Point) "__eq__" = some (some (.ref f_Point___eq__)))
    (l_Point___eq__ : K.lookup f_Point___eq__ = some ⟨oc_Point___eq__, od_Point___eq__, .func (PySem.W.fnOf "__eq__" "Point.__eq__" (defArgs s_Point___eq__) (defBody s_Point___eq__) (defScope s_Point___eq__) .none kV_Point___eq__ dc_Point___eq__ pm_Point___eq__ an_Point___eq__ cd_Point___eq__ ct_Point___eq__), sl_Point___eq__⟩)
    (c_Point___eq__ : PySem.W.codeIn K cd_Point___eq__ "Point.__eq__" = true)
    (k_Point___eq__ : PySem.W.keepIn K (.ref f_Point___eq__) = true)
    (g_Point___add__ : PySem.W.findIn K (.ref C_Point) "__add__" = some (some (.ref f_Point___add__)))
    (l_Point___add__ : K.lookup f_Point___add__ = some ⟨oc_Point___add__, od_Point___add__, .func (PySem.W.fnOf "__add__" "Point.__add__" (defArgs s_Point___add__) (defBody s_Point___add__) (defScope s_Point___add__) .none kV_Point___add__ dc_Point___add__ pm_Point___add__ an_Point___add__ cd_Point___add__ ct_Point___add__), sl_Point___add__⟩)
    (c_Point___add__ : PySem.W.codeIn K cd_Point___add__ "Point.__add__" = true)
    (k_Point___add__ : PySem.W.keepIn K (.ref f_Point___add__) = true)
    (g_Point___sub__ : PySem.W.findIn K (.ref C_Point) "__sub__" = some (some (.ref f_Point___sub__)))
    (l_Point___sub__ : K.lookup f_Point___sub__ = some ⟨oc_Point___sub__, od_Point___sub__, .func (PySem.W.fnOf "__sub__" "Point.__sub__" (defArgs s_Point___sub__) (defBody s_Point___sub__) (defScope s_Point___sub__) .none kV_Point___sub__ dc_Point___sub__ pm_Point___sub__ an_Point___sub__ cd_Point___sub__ ct_Point___sub__), sl_Point___sub__⟩)
    (c_Point___sub__ : PySem.W.codeIn K cd_Point___sub__ "Point.__sub__" = true)
    (k_Point___sub__ : PySem.W.keepIn K (.ref f_Point___sub__) = true)
    (g_Point_towards : PySem.W.findIn K (.ref C_Point) "towards" = some (some (.ref f_Point_towards)))
    (l_Point_towards : K.lookup f_Point_towards = some ⟨oc_Point_towards, od_Point_towards, .func (PySem.W.fnOf "towards" "Point.towards" (defArgs s_Point_towards) (defBody s_Point_towards) (defScope s_Point_towards) .none kV_Point_towards dc_Point_towards pm_Point_towards an_Point_towards cd_Point_towards ct_Point_towards), sl_Point_towards⟩)
    (c_Point_towards : PySem.W.codeIn K cd_Point_towards "Point.towards" = true)
    (k_Point_towards : PySem.W.keepIn K (.ref f_Point_towards) = true)
    (g__law_ratio_text : PySem.W.nsIn K mainGlobals "_law_ratio_text" = some (some (.ref f__law_ratio_text)))
    (l__law_ratio_text : K.lookup f__law_ratio_text = some ⟨oc__law_ratio_text, od__law_ratio_text, .func (PySem.W.fnOf "_law_ratio_text" "_law_ratio_text" (defArgs s__law_ratio_text) (defBody s__law_ratio_text) (defScope s__law_ratio_text) .none kV__law_ratio_text dc__law_ratio_text pm__law_ratio_text an__law_ratio_text cd__law_ratio_text ct__law_ratio_text), sl__law_ratio_text⟩)
    (c__law_ratio_text : PySem.W.codeIn K cd__law_ratio_text "_law_ratio_text" = true)
    (k__law_ratio_text : PySem.W.keepIn K (.ref f__law_ratio_text) = true)
    (g__law_is_int : PySem.W.nsIn K mainGlobals "_law_is_int" = some (some (.ref f__law_is_int)))
    (l__law_is_int : K.lookup f__law_is_int = some ⟨oc__law_is_int, od__law_is_int, .func (PySem.W.fnOf "_law_is_int" "_law_is_int" (defArgs s__law_is_int) (defBody s__law_is_int) (defScope s__law_is_int) .none kV__law_is_int dc__law_is_int pm__law_is_int an__law_is_int cd__law_is_int ct__law_is_int), sl__law_is_int⟩)
    (c__law_is_int : PySem.W.codeIn K cd__law_is_int "_law_is_int" = true)
    (k__law_is_int : PySem.W.keepIn K (.ref f__law_is_int) = true)
    (g__law_drawn : PySem.W.nsIn K mainGlobals "_law_drawn" = some (some (.ref f__law_drawn)))
    (l__law_drawn : K.lookup f__law_drawn = some ⟨oc__law_drawn, od__law_drawn, .func (PySem.W.fnOf "_law_drawn" "_law_drawn" (defArgs s__law_drawn) (defBody s__law_drawn) (defScope s__law_drawn) .none kV__law_drawn dc__law_drawn pm__law_drawn an__law_drawn cd__law_drawn ct__law_drawn), sl__law_drawn⟩)
    (c__law_drawn : PySem.W.codeIn K cd__law_drawn "_law_drawn" = true)
    (k__law_drawn : PySem.W.keepIn K (.ref f__law_drawn) = true)
    (g__law_with : PySem.W.nsIn K mainGlobals "_law_with" = some (some (.ref f__law_with)))
    (l__law_with : K.lookup f__law_with = some ⟨oc__law_with, od__law_with, .func (PySem.W.fnOf "_law_with" "_law_with" (defArgs s__law_with) (defBody s__law_with) (defScope s__law_with) .none kV__law_with dc__law_with pm__law_with an__law_with cd__law_with ct__law_with), sl__law_with⟩)
    (c__law_with : PySem.W.codeIn K cd__law_with "_law_with" = true)
    (k__law_with : PySem.W.keepIn K (.ref f__law_with) = true)
    (g__law_number : PySem.W.nsIn K mainGlobals "_law_number" = some (some (.ref f__law_number)))
    (l__law_number : K.lookup f__law_number = some ⟨oc__law_number, od__law_number, .func (PySem.W.fnOf "_law_number" "_law_number" (defArgs s__law_number) (defBody s__law_number) (defScope s__law_number) .none kV__law_number dc__law_number pm__law_number an__law_number cd__law_number ct__law_number), sl__law_number⟩)
    (c__law_number : PySem.W.codeIn K cd__law_number "_law_number" = true)
    (k__law_number : PySem.W.keepIn K (.ref f__law_number) = true)
    (g__law_point : PySem.W.nsIn K mainGlobals "_law_point" = some (some (.ref f__law_point)))
    (l__law_point : K.lookup f__law_point = some ⟨oc__law_point, od__law_point, .func (PySem.W.fnOf "_law_point" "_law_point" (defArgs s__law_point) (defBody s__law_point) (defScope s__law_point) .none kV__law_point dc__law_point pm__law_point an__law_point cd__law_point ct__law_point), sl__law_point⟩)
    (c__law_point : PySem.W.codeIn K cd__law_point "_law_point" = true)
    (k__law_point : PySem.W.keepIn K (.ref f__law_point) = true)
    (g__law_is_at : PySem.W.nsIn K mainGlobals "_law_is_at" = some (some (.ref f__law_is_at)))
    (l__law_is_at : K.lookup f__law_is_at = some ⟨oc__law_is_at, od__law_is_at, .func (PySem.W.fnOf "_law_is_at" "_law_is_at" (defArgs s__law_is_at) (defBody s__law_is_at) (defScope s__law_is_at) .none kV__law_is_at dc__law_is_at pm__law_is_at an__law_is_at cd__law_is_at ct__law_is_at), sl__law_is_at⟩)
    (c__law_is_at : PySem.W.codeIn K cd__law_is_at "_law_is_at" = true)
    (k__law_is_at : PySem.W.keepIn K (.ref f__law_is_at) = true)
    (g__law_made_right : PySem.W.nsIn K mainGlobals "_law_made_right" = some (some (.ref f__law_made_right)))
    (l__law_made_right : K.lookup f__law_made_right = some ⟨oc__law_made_right, od__law_made_right, .func (PySem.W.fnOf "_law_made_right" "_law_made_right" (defArgs s__law_made_right) (defBody s__law_made_right) (defScope s__law_made_right) .none kV__law_made_right dc__law_made_right pm__law_made_right an__law_made_right cd__law_made_right ct__law_made_right), sl__law_made_right⟩)
    (c__law_made_right : PySem.W.codeIn K cd__law_made_right "_law_made_right" = true)
    (k__law_made_right : PySem.W.keepIn K (.ref f__law_made_right) = true)
    (g__law_odd_right : PySem.W.nsIn K mainGlobals "_law_odd_right" = some (some (.ref f__law_odd_right)))
    (l__law_odd_right : K.lookup f__law_odd_right = some ⟨oc__law_odd_right, od__law_odd_right, .func (PySem.W.fnOf "_law_odd_right" "_law_odd_right" (defArgs s__law_odd_right) (defBody s__law_odd_right) (defScope s__law_odd_right) .none kV__law_odd_right dc__law_odd_right pm__law_odd_right an__law_odd_right (.ref cA__law_odd_right) ct__law_odd_right), sl__law_odd_right⟩)
    (c__law_odd_right : PySem.W.codeIn K (.ref cA__law_odd_right) "_law_odd_right" = true)
    (k__law_odd_right : PySem.W.keepIn K (.ref f__law_odd_right) = true)
    (o__law_odd_right : K.lookup cA__law_odd_right = some ⟨eC__law_odd_right, dC__law_odd_right, .fields vC__law_odd_right, sC__law_odd_right⟩)
    (v__law_odd_right : vC__law_odd_right[11]? = some (.ref Pt__law_odd_right))
    (t__law_odd_right : K.lookup Pt__law_odd_right = none)
    (g_law : PySem.W.nsIn K mainGlobals "law" = some (some (.ref f_law)))
    (l_law : K.lookup f_law = some ⟨oc_law, od_law, .func (PySem.W.fnOf "law" "law" (defArgs s_law) (defBody s_law) (defScope s_law) .none kV_law dc_law pm_law an_law cd_law ct_law), sl_law⟩)
    (c_law : PySem.W.codeIn K cd_law "law" = true)
    (k_law : PySem.W.keepIn K (.ref f_law) = true)
    (ri1 : PySem.W.findIn K (.ref C_Ratio) "__class__" = some (some (.builtin "object.__class__")))
    (ri4 : PySem.W.mroIn K C_Ratio (.type "object") = some true)
    (ri5 : PySem.W.kitOne K (.ref C_Ratio) (.type "int") = some false)
    (ri6 : PySem.W.kitOne K (.ref C_Ratio) (.type "bool") = some false)
    (ri7 : PySem.W.kitOne K (.ref C_Ratio) (.ref C_Ratio) = some true)
    (ri8 : (["int", "bool", "NoneType", "str", "tuple", "list", "dict"] : List String).all (fun t => decide (PySem.W.kitOne K (.type t) (.ref C_Ratio) = some false)) = true)
    (cl1 : PySem.W.plainGet K C_Ratio Str.empty = true)
    (cl2 : PySem.W.hasDictIn K C_Ratio = true)
    (cl3 : PySem.W.plainOver K C_Ratio = true)
    (cl4 : PySem.W.findIn K (.ref C_Ratio) "__setattr__" = some (some (.builtin "object.__setattr__")))
    (mk1 : PySem.W.makesIn K C_Ratio = true)
    (mk2 : PySem.W.keepIn K (.ref C_Ratio) = true)
    (mk3 : PySem.W.isFn K (.ref f_Ratio___init__) = true)
    (eq1 : PySem.W.isFn K (.ref f_Ratio___eq__) = true)
    (eq2 : PySem.W.findIn K (.ref C_Ratio) "__ne__" = some (some (.builtin "object.__ne__")))
    (eq3 : (["int", "str", "tuple"] : List String).all (fun t => PySem.W.notFirst K C_Ratio (.type t)) = true)
    (ri1P : PySem.W.findIn K (.ref C_Point) "__class__" = some (some (.builtin "object.__class__")))
    (ri4P : PySem.W.mroIn K C_Point (.type "object") = some true)
    (ri5P : PySem.W.kitOne K (.ref C_Point) (.type "int") = some false)
    (ri6P : PySem.W.kitOne K (.ref C_Point) (.type "bool") = some false)
    (ri7P : PySem.W.kitOne K (.ref C_Point) (.ref C_Point) = some true)
    (ri8P : (["int", "bool", "NoneType", "str", "tuple", "list", "dict"] : List String).all (fun t => decide (PySem.W.kitOne K (.type t) (.ref C_Point) = some false)) = true)
    (cl1P : PySem.W.plainGet K C_Point Str.empty = true)
    (cl2P : PySem.W.hasDictIn K C_Point = true)
    (cl3P : PySem.W.plainOver K C_Point = true)
    (cl4P : PySem.W.findIn K (.ref C_Point) "__setattr__" = some (some (.builtin "object.__setattr__")))
    (mk1P : PySem.W.makesIn K C_Point = true)
    (mk2P : PySem.W.keepIn K (.ref C_Point) = true)
    (mk3P : PySem.W.isFn K (.ref f_Point___init__) = true)
    (eq1P : PySem.W.isFn K (.ref f_Point___eq__) = true)
    (eq2P : PySem.W.findIn K (.ref C_Point) "__ne__" = some (some (.builtin "object.__ne__")))
    (eq3P : (["int", "str", "tuple"] : List String).all (fun t => PySem.W.notFirst K C_Point (.type t)) = true)
    (nN : PySem.W.findIn K (.ref C_Ratio) "number" = some none)
    (nU : PySem.W.findIn K (.ref C_Ratio) "under" = some none)
    (nX : PySem.W.findIn K (.ref C_Point) "x" = some none)
    (nY : PySem.W.findIn K (.ref C_Point) "y" = some none)
    (rRP : PySem.W.kitOne K (.ref C_Ratio) (.ref C_Point) = some false)
    (rPR : PySem.W.kitOne K (.ref C_Point) (.ref C_Ratio) = some false)
    (r_add : PySem.W.findIn K (.ref C_Ratio) "__radd__" = some (some (.ref f_Ratio___radd__)))
    (o_add : opcB K C_Ratio f_Ratio___add__ f_Ratio___radd__ "add" = true)
    (r_sub : PySem.W.findIn K (.ref C_Ratio) "__rsub__" = some (some (.ref f_Ratio___rsub__)))
    (o_sub : opcB K C_Ratio f_Ratio___sub__ f_Ratio___rsub__ "sub" = true)
    (r_mul : PySem.W.findIn K (.ref C_Ratio) "__rmul__" = some (some (.ref f_Ratio___rmul__)))
    (o_mul : opcB K C_Ratio f_Ratio___mul__ f_Ratio___rmul__ "mul" = true)
    (sfP : PySem.W.selfFirst K C_Point = true)
    (fa_P : PySem.W.isFn K (.ref f_Point___add__) = true)
    (fs_P : PySem.W.isFn K (.ref f_Point___sub__) = true)
    (ft_P : PySem.W.isFn K (.ref f_Point_towards) = true)
    (xBBadNumber : PySem.W.exmOne K (.ref C_BadNumber) (.ref C_AboutError) = some true)
    (tBBadNumber : PySem.W.kitOne K (.ref C_BadNumber) (.ref C_BadNumber) = some true)
    (xBBadPoint : PySem.W.exmOne K (.ref C_BadPoint) (.ref C_AboutError) = some true)
    (tBBadPoint : PySem.W.kitOne K (.ref C_BadPoint) (.ref C_BadPoint) = some true) :
    LawT P w K 14 63 "_law_script" mg fa h := by
  have e := hfa.symm.trans (PySem.W.mg_of X G g_law)
  cases e
  let a : Ad := ⟨f_init, C_AboutError, C_BadNumber, C_BadPoint, C_Ratio, C_Point, f__law_pot, f__law_take, f__law_of, f__law_places, f__law_told, f__law_is_int, f__law_odd, f__law_common, f__law_pair, f__law_ratio_text, f__law_pair_of, f__law_drawn, f__law_with, f__law_number, f__law_point, f__law_is_at, f__law_made_right, f__law_odd_right, fa, f_is_integer, f_is_number, f_as_ratio, f_difference, f_written, f__has_figures_alone, f__worth, f_read_ratio, f_read_point, f_check_point, f_Ratio___init__, f_Ratio_text, f_Ratio___add__, f_Ratio___radd__, f_Ratio___sub__, f_Ratio___rsub__, f_Ratio___mul__, f_Ratio___rmul__, f_Ratio___eq__, f_Point___init__, f_Point_text, f_Point_of, f_Point_towards, f_Point___add__, f_Point___sub__, f_Point___eq__⟩
  have eb1 : ∀ C ∈ [C_AboutError, C_BadNumber, C_BadPoint], ecB K f_init C = true := List.all_eq_true.mp eb
  have e_AboutError := ecB_ok (eb1 C_AboutError (by simp)) ⟨_, _, _, _, _, _, _, _, _, _, _, _, _, _, _, x_AboutError, by rfl⟩
  have e_BadNumber := ecB_ok (eb1 C_BadNumber (by simp)) ⟨_, _, _, _, _, _, _, _, _, _, _, _, _, _, _, x_BadNumber, by rfl⟩
  have e_BadPoint := ecB_ok (eb1 C_BadPoint (by simp)) ⟨_, _, _, _, _, _, _, _, _, _, _, _, _, _, _, x_BadPoint, by rfl⟩
  have T : Txt K mg a := {
    n_abs := PySem.W.mg_none_of X G n_abs
    n_all := PySem.W.mg_none_of X G n_all
    n_bool := PySem.W.mg_none_of X G n_bool
    n_int := PySem.W.mg_none_of X G n_int
    n_isinstance := PySem.W.mg_none_of X G n_isinstance
    n_len := PySem.W.mg_none_of X G n_len
    n_list := PySem.W.mg_none_of X G n_list
    n_max := PySem.W.mg_none_of X G n_max
    n_min := PySem.W.mg_none_of X G n_min
    n_range := PySem.W.mg_none_of X G n_range
    n_repr := PySem.W.mg_none_of X G n_repr
    n_divmod := PySem.W.mg_none_of X G n_divmod
    n_str := PySem.W.mg_none_of X G n_str
    n_zip := PySem.W.mg_none_of X G n_zip
    g__law_pot := PySem.W.mg_of X G g__law_pot
    k__law_pot := k__law_pot
    g__law_take := PySem.W.mg_of X G g__law_take
    k__law_take := k__law_take
    g__law_of := PySem.W.mg_of X G g__law_of
    k__law_of := k__law_of
    g__law_places := PySem.W.mg_of X G g__law_places
    k__law_places := k__law_places
    g_is_integer := PySem.W.mg_of X G g_is_integer
    k_is_integer := k_is_integer
    g_is_number := PySem.W.mg_of X G g_is_number
    k_is_number := k_is_number
    g_as_ratio := PySem.W.mg_of X G g_as_ratio
    k_as_ratio := k_as_ratio
    g_difference := PySem.W.mg_of X G g_difference
    k_difference := k_difference
    g__law_common := PySem.W.mg_of X G g__law_common
    k__law_common := k__law_common
    g__law_pair := PySem.W.mg_of X G g__law_pair
    k__law_pair := k__law_pair
    g__law_pair_of := PySem.W.mg_of X G g__law_pair_of
    k__law_pair_of := k__law_pair_of
    g__law_odd := PySem.W.mg_of X G g__law_odd
    k__law_odd := k__law_odd
    g_written := PySem.W.mg_of X G g_written
    k_written := k_written
    g__has_figures_alone := PySem.W.mg_of X G g__has_figures_alone
    k__has_figures_alone := k__has_figures_alone
    g__worth := PySem.W.mg_of X G g__worth
    k__worth := k__worth
    g_read_ratio := PySem.W.mg_of X G g_read_ratio
    k_read_ratio := k_read_ratio
    g_check_point := PySem.W.mg_of X G g_check_point
    k_check_point := k_check_point
    g_read_point := PySem.W.mg_of X G g_read_point
    k_read_point := k_read_point
    g__law_ratio_text := PySem.W.mg_of X G g__law_ratio_text
    k__law_ratio_text := k__law_ratio_text
    g__law_is_int := PySem.W.mg_of X G g__law_is_int
    k__law_is_int := k__law_is_int
    g__law_drawn := PySem.W.mg_of X G g__law_drawn
    k__law_drawn := k__law_drawn
    g__law_with := PySem.W.mg_of X G g__law_with
    k__law_with := k__law_with
    g__law_number := PySem.W.mg_of X G g__law_number
    k__law_number := k__law_number
    g__law_point := PySem.W.mg_of X G g__law_point
    k__law_point := k__law_point
    g__law_is_at := PySem.W.mg_of X G g__law_is_at
    k__law_is_at := k__law_is_at
    g__law_made_right := PySem.W.mg_of X G g__law_made_right
    k__law_made_right := k__law_made_right
    g__law_odd_right := PySem.W.mg_of X G g__law_odd_right
    k__law_odd_right := k__law_odd_right
    g_law := PySem.W.mg_of X G g_law
    k_law := k_law
    g_AboutError := PySem.W.mg_of X G g_AboutError
    tI := tI
    ek := ⟨sp, tk⟩
    g_BadNumber := PySem.W.mg_of X G g_BadNumber
    c_BadNumber := e_BadNumber.1
    i_BadNumber := e_BadNumber.2
    x_BadNumber := xBBadNumber
    t_BadNumber := tBBadNumber
    g_BadPoint := PySem.W.mg_of X G g_BadPoint
    c_BadPoint := e_BadPoint.1
    i_BadPoint := e_BadPoint.2
    x_BadPoint := xBBadPoint
    t_BadPoint := tBBadPoint
    eqc := ⟨g_Ratio___eq__, eq1, eq2, ri4, fun t ht => List.all_eq_true.mp eq3 t (by simpa [or_assoc] using ht)⟩
    eqp := ⟨g_Point___eq__, eq1P, eq2P, ri4P, fun t ht => List.all_eq_true.mp eq3P t (by simpa [or_assoc] using ht)⟩
    g_gcd := PySem.W.mg_of X G gG
    g_PART := ⟨tP, PySem.W.mg_of X G gP⟩
    g_FIG := ⟨tF, PySem.W.mg_of X G gF⟩
    g_Ratio := PySem.W.mg_of X G g_Ratio
    m_Ratio := ⟨mk1, g_Ratio___init__, mk3, mk2⟩
    cl := ⟨cl1, cl2, cl3, cl4⟩
    nN := nN
    nU := nU
    g_Point := PySem.W.mg_of X G g_Point
    m_Point := ⟨mk1P, g_Point___init__, mk3P, mk2P⟩
    clP := ⟨cl1P, cl2P, cl3P, cl4P⟩
    nX := nX
    nY := nY
    ri := ⟨ri1, sp, tk, ri4, ri5, ri6, ri7, fun t ht => of_decide_eq_true (List.all_eq_true.mp ri8 t ht)⟩
    riP := ⟨ri1P, sp, tk, ri4P, ri5P, ri6P, ri7P, fun t ht => of_decide_eq_true (List.all_eq_true.mp ri8P t ht)⟩
    rRP := rRP
    rPR := rPR
    o_add := opcB_ok o_add
    o_sub := opcB_ok o_sub
    o_mul := opcB_ok o_mul
    tR := ⟨pr_Ratio, ⟨pa_Ratio, pb_Ratio, pc_Ratio, _, pd_Ratio⟩⟩
    tP := ⟨pr_Point, ⟨pa_Point, pb_Point, pc_Point, _, pd_Point⟩⟩
    oP := ⟨⟨_, _, _, ⟨sc_Point, sd_Point⟩, sa_Point, sb_Point⟩, k_Point_of⟩
    tw := ⟨g_Point_towards, ft_P, k_Point_towards⟩
    oA := ⟨sfP, g_Point___add__, fa_P⟩
    oS := ⟨sfP, g_Point___sub__, fs_P⟩
    g__law_told := PySem.W.mg_of X G g__law_told
    k__law_told := k__law_told
  }
  have F_init := fun_mk (st := s_init) l_init c_init k_init
  have b_init := F_init.binds (ps := ["self", "value"]) fun _ _ _ _ _ _ us hl => match us, hl with | [_, _], _ => rfl
  have F__law_told := fun_mk (st := s__law_told) l__law_told c__law_told k__law_told
  have b__law_told := F__law_told.binds (ps := ["_law_ask"]) fun _ _ _ _ _ _ us hl => match us, hl with | [_], _ => rfl
  have F__law_pot := fun_mk (st := s__law_pot) l__law_pot c__law_pot k__law_pot
  have b__law_pot := F__law_pot.binds (ps := ["_law_script", "_law_k"]) fun _ _ _ _ _ _ us hl => match us, hl with | [_, _], _ => rfl
  have F__law_take := fun_mk (st := s__law_take) l__law_take c__law_take k__law_take
  have b__law_take := F__law_take.binds (ps := ["_law_pot_here", "_law_upto"]) fun _ _ _ _ _ _ us hl => match us, hl with | [_, _], _ => rfl
  have F__law_of := fun_mk (st := s__law_of) l__law_of c__law_of k__law_of
  have b__law_of := F__law_of.binds (ps := ["_law_pot_here", "_law_some"]) fun _ _ _ _ _ _ us hl => match us, hl with | [_, _], _ => rfl
  have F__law_places := fun_mk (st := s__law_places) l__law_places c__law_places k__law_places
  have b__law_places := F__law_places.binds (ps := ["_law_script", "_law_most"]) fun _ _ _ _ _ _ us hl => match us, hl with | [_, _], _ => rfl
  have F_is_integer := fun_mk (st := s_is_integer) l_is_integer c_is_integer k_is_integer
  have b_is_integer := F_is_integer.binds (ps := ["value"]) fun _ _ _ _ _ _ us hl => match us, hl with | [_], _ => rfl
  have F_is_number := fun_mk (st := s_is_number) l_is_number c_is_number k_is_number
  have b_is_number := F_is_number.binds (ps := ["value"]) fun _ _ _ _ _ _ us hl => match us, hl with | [_], _ => rfl
  have F_Ratio___init__ : FunD K "__init__" "Ratio.__init__" (defArgs s_Ratio___init__) (defBody s_Ratio___init__) (defScope s_Ratio___init__) [.int 1] [] f_Ratio___init__ _ := ⟨⟨_, _, _, _, _, _, _, _, _, _, rfl, l_Ratio___init__, c_Ratio___init__, .inr ⟨by simp, _, _, _, _, rfl, d_Ratio___init__, rfl, r_Ratio___init__⟩, .inl rfl⟩, k_Ratio___init__⟩
  have d_Ratio___init__ := F_Ratio___init__.binds1 (ps := ["self", "number", "under"]) 2 0 (by simp) (by rfl) fun T kV doc pm an cdv ct us its hu hi => match us, its, hu, hi with | [_, _], [_], _, _ => ⟨_, rfl, rfl⟩
  obtain ⟨ds_Ratio___init__, d_Ratio___init__⟩ := d_Ratio___init__
  have b_Ratio___init__ := F_Ratio___init__.binds1 (ps := ["self", "number", "under"]) 3 1 (by simp) (by rfl) fun T kV doc pm an cdv ct us its hu hi => match us, its, hu, hi with | [_, _, _], [_], _, _ => ⟨_, rfl, rfl⟩
  obtain ⟨es_Ratio___init__, v_Ratio___init__, b_Ratio___init__⟩ := b_Ratio___init__
  cases v_Ratio___init__
  have F_as_ratio := fun_mk (st := s_as_ratio) l_as_ratio c_as_ratio k_as_ratio
  have b_as_ratio := F_as_ratio.binds (ps := ["number"]) fun _ _ _ _ _ _ us hl => match us, hl with | [_], _ => rfl
  have F_difference := fun_mk (st := s_difference) l_difference c_difference k_difference
  have b_difference := F_difference.binds (ps := ["one", "other"]) fun _ _ _ _ _ _ us hl => match us, hl with | [_, _], _ => rfl
  have F_Ratio___add__ := fun_mk (st := s_Ratio___add__) l_Ratio___add__ c_Ratio___add__ k_Ratio___add__
  have b_Ratio___add__ := F_Ratio___add__.binds (ps := ["self", "other"]) fun _ _ _ _ _ _ us hl => match us, hl with | [_, _], _ => rfl
  have F_Ratio___sub__ := fun_mk (st := s_Ratio___sub__) l_Ratio___sub__ c_Ratio___sub__ k_Ratio___sub__
  have b_Ratio___sub__ := F_Ratio___sub__.binds (ps := ["self", "other"]) fun _ _ _ _ _ _ us hl => match us, hl with | [_, _], _ => rfl
  have F_Ratio___mul__ := fun_mk (st := s_Ratio___mul__) l_Ratio___mul__ c_Ratio___mul__ k_Ratio___mul__
  have b_Ratio___mul__ := F_Ratio___mul__.binds (ps := ["self", "other"]) fun _ _ _ _ _ _ us hl => match us, hl with | [_, _], _ => rfl
  have F_Ratio___eq__ := fun_mk (st := s_Ratio___eq__) l_Ratio___eq__ c_Ratio___eq__ k_Ratio___eq__
  have b_Ratio___eq__ := F_Ratio___eq__.binds (ps := ["self", "other"]) fun _ _ _ _ _ _ us hl => match us, hl with | [_, _], _ => rfl
  have F__law_common := fun_mk (st := s__law_common) l__law_common c__law_common k__law_common
  have b__law_common := F__law_common.binds (ps := ["_law_one", "_law_other"]) fun _ _ _ _ _ _ us hl => match us, hl with | [_, _], _ => rfl
  have F__law_pair := fun_mk (st := s__law_pair) l__law_pair c__law_pair k__law_pair
  have b__law_pair := F__law_pair.binds (ps := ["_law_above", "_law_under"]) fun _ _ _ _ _ _ us hl => match us, hl with | [_, _], _ => rfl
  have F__law_pair_of := fun_mk (st := s__law_pair_of) l__law_pair_of c__law_pair_of k__law_pair_of
  have b__law_pair_of := F__law_pair_of.binds (ps := ["_law_made"]) fun _ _ _ _ _ _ us hl => match us, hl with | [_], _ => rfl
  have F__law_odd := fun_mk (st := s__law_odd) l__law_odd c__law_odd k__law_odd
  have b__law_odd := F__law_odd.binds (ps := ["_law_pot_here"]) fun _ _ _ _ _ _ us hl => match us, hl with | [_], _ => rfl
  have F_written := fun_mk (st := s_written) l_written c_written k_written
  have b_written := F_written.binds (ps := ["integer"]) fun _ _ _ _ _ _ us hl => match us, hl with | [_], _ => rfl
  have F__has_figures_alone := fun_mk (st := s__has_figures_alone) l__has_figures_alone c__has_figures_alone k__has_figures_alone
  have b__has_figures_alone := F__has_figures_alone.binds (ps := ["word"]) fun _ _ _ _ _ _ us hl => match us, hl with | [_], _ => rfl
  have F__worth := fun_mk (st := s__worth) l__worth c__worth k__worth
  have b__worth := F__worth.binds (ps := ["word"]) fun _ _ _ _ _ _ us hl => match us, hl with | [_], _ => rfl
  have F_Ratio_text := fun_mk (st := s_Ratio_text) l_Ratio_text c_Ratio_text k_Ratio_text
  have b_Ratio_text := F_Ratio_text.binds (ps := ["self"]) fun _ _ _ _ _ _ us hl => match us, hl with | [_], _ => rfl
  have F_read_ratio := fun_mk (st := s_read_ratio) l_read_ratio c_read_ratio k_read_ratio
  have b_read_ratio := F_read_ratio.binds (ps := ["value"]) fun _ _ _ _ _ _ us hl => match us, hl with | [_], _ => rfl
  have F_check_point := fun_mk (st := s_check_point) l_check_point c_check_point k_check_point
  have b_check_point := F_check_point.binds (ps := ["value"]) fun _ _ _ _ _ _ us hl => match us, hl with | [_], _ => rfl
  have F_Point___init__ := fun_mk (st := s_Point___init__) l_Point___init__ c_Point___init__ k_Point___init__
  have b_Point___init__ := F_Point___init__.binds (ps := ["self", "x", "y"]) fun _ _ _ _ _ _ us hl => match us, hl with | [_, _, _], _ => rfl
  have F_read_point := fun_mk (st := s_read_point) l_read_point c_read_point k_read_point
  have b_read_point := F_read_point.binds (ps := ["value"]) fun _ _ _ _ _ _ us hl => match us, hl with | [_], _ => rfl
  have F_Point_text := fun_mk (st := s_Point_text) l_Point_text c_Point_text k_Point_text
  have b_Point_text := F_Point_text.binds (ps := ["self"]) fun _ _ _ _ _ _ us hl => match us, hl with | [_], _ => rfl
  have F_Point_of := fun_mk (st := s_Point_of) l_Point_of c_Point_of k_Point_of
  have b_Point_of := F_Point_of.binds (ps := ["text"]) fun _ _ _ _ _ _ us hl => match us, hl with | [_], _ => rfl
  have F_Point___eq__ := fun_mk (st := s_Point___eq__) l_Point___eq__ c_Point___eq__ k_Point___eq__
  have b_Point___eq__ := F_Point___eq__.binds (ps := ["self", "other"]) fun _ _ _ _ _ _ us hl => match us, hl with | [_, _], _ => rfl
  have F_Point___add__ := fun_mk (st := s_Point___add__) l_Point___add__ c_Point___add__ k_Point___add__
  have b_Point___add__ := F_Point___add__.binds (ps := ["self", "other"]) fun _ _ _ _ _ _ us hl => match us, hl with | [_, _], _ => rfl
  have F_Point___sub__ := fun_mk (st := s_Point___sub__) l_Point___sub__ c_Point___sub__ k_Point___sub__
  have b_Point___sub__ := F_Point___sub__.binds (ps := ["self", "other"]) fun _ _ _ _ _ _ us hl => match us, hl with | [_, _], _ => rfl
  have F_Point_towards := fun_mk (st := s_Point_towards) l_Point_towards c_Point_towards k_Point_towards
  have b_Point_towards := F_Point_towards.binds (ps := ["self", "other", "share"]) fun _ _ _ _ _ _ us hl => match us, hl with | [_, _, _], _ => rfl
  have F__law_ratio_text := fun_mk (st := s__law_ratio_text) l__law_ratio_text c__law_ratio_text k__law_ratio_text
  have b__law_ratio_text := F__law_ratio_text.binds (ps := ["_law_pair_here"]) fun _ _ _ _ _ _ us hl => match us, hl with | [_], _ => rfl
  have F__law_is_int := fun_mk (st := s__law_is_int) l__law_is_int c__law_is_int k__law_is_int
  have b__law_is_int := F__law_is_int.binds (ps := ["_law_value", "_law_low", "_law_high"]) fun _ _ _ _ _ _ us hl => match us, hl with | [_, _, _], _ => rfl
  have F__law_drawn := fun_mk (st := s__law_drawn) l__law_drawn c__law_drawn k__law_drawn
  have b__law_drawn := F__law_drawn.binds (ps := ["_law_pot_here"]) fun _ _ _ _ _ _ us hl => match us, hl with | [_], _ => rfl
  have F__law_with := fun_mk (st := s__law_with) l__law_with c__law_with k__law_with
  have b__law_with := F__law_with.binds (ps := ["_law_one", "_law_other", "_law_many"]) fun _ _ _ _ _ _ us hl => match us, hl with | [_, _, _], _ => rfl
  have F__law_number := fun_mk (st := s__law_number) l__law_number c__law_number k__law_number
  have b__law_number := F__law_number.binds (ps := ["_law_pot_here", "_law_pair_here"]) fun _ _ _ _ _ _ us hl => match us, hl with | [_, _], _ => rfl
  have F__law_point := fun_mk (st := s__law_point) l__law_point c__law_point k__law_point
  have b__law_point := F__law_point.binds (ps := ["_law_pot_here", "_law_dot"]) fun _ _ _ _ _ _ us hl => match us, hl with | [_, _], _ => rfl
  have F__law_is_at := fun_mk (st := s__law_is_at) l__law_is_at c__law_is_at k__law_is_at
  have b__law_is_at := F__law_is_at.binds (ps := ["_law_made", "_law_dot"]) fun _ _ _ _ _ _ us hl => match us, hl with | [_, _], _ => rfl
  have F__law_made_right := fun_mk (st := s__law_made_right) l__law_made_right c__law_made_right k__law_made_right
  have b__law_made_right := F__law_made_right.binds (ps := ["_law_pot_here"]) fun _ _ _ _ _ _ us hl => match us, hl with | [_], _ => rfl
  have F__law_odd_right := fun_mk (st := s__law_odd_right) l__law_odd_right c__law_odd_right k__law_odd_right
  have b__law_odd_right := F__law_odd_right.binds (ps := ["_law_pot_here"]) fun _ _ _ _ _ _ us hl => match us, hl with | [_], _ => rfl
  have F_law := fun_mk (st := s_law) l_law c_law k_law
  have b_law := F_law.binds (ps := ["_law_script"]) fun _ _ _ _ _ _ us hl => match us, hl with | [_], _ => rfl
  obtain ⟨xf__law_odd_right, xo, xd, c_cd__law_odd_right, xt__law_odd_right, y1, y2, y3, y4, y5__law_odd_right, y6__law_odd_right⟩ := bare__law_odd_right
  rw [PySem.W.mg_of X G g__law_odd_right] at y1
  cases y1
  rw [X _ _ l__law_odd_right] at y2
  cases y2
  cases y3
  cases y4
  have same__law_odd_right : Pt__law_odd_right = xt__law_odd_right := by
    obtain ⟨ob, us, _, _, _, _, _, _, _, z1, _, z3, z4, _⟩ := id y5__law_odd_right
    rw [X _ _ o__law_odd_right] at z1
    cases z1
    cases z3
    rw [v__law_odd_right] at z4
    injection z4 with z5
    injection z5
  rw [← same__law_odd_right] at y5__law_odd_right y6__law_odd_right
  refine ⟨PySem.W.fnOf "law" "law" (defArgs s_law) (defBody s_law) (defScope s_law) .none kV_law dc_law pm_law an_law cd_law ct_law, [(cA__law_odd_right, Pt__law_odd_right)], spLaw K Pt__law_odd_right, ?facts, fun s v => .of_eq rfl, ?told, fun base hK hG TB => ?fn⟩
  case facts =>
    intro p hp
    simp only [List.mem_cons, List.not_mem_nil, or_false] at hp
    rcases hp with rfl
    · exact ⟨y6__law_odd_right, t__law_odd_right, y5__law_odd_right⟩
  case told =>
    intro H b ns hl hT hS
    exact ⟨b, ns, rfl, hS, hl, fun p hp => by rw [List.mem_singleton.mp hp]; exact TabS.nil (hT (cA__law_odd_right, Pt__law_odd_right) (by simp)), fun _ => rfl⟩
  case fn =>
    have G_init : FnOk P w K mg base CX0 1 f_init _ ["self", "value"] (spErrInit K) := ok_init F_init
    have G__law_pot := ok__law_pot (P := P) (w := w) (base := base) (a := a) F__law_pot T
    have G__law_take := ok__law_take (P := P) (w := w) (base := base) (a := a) F__law_take T
    have G__law_of := ok__law_of (P := P) (w := w) (base := base) (a := a) F__law_of T G__law_take b__law_take
    have G__law_places := ok__law_places (P := P) (w := w) (base := base) (a := a) F__law_places T
    have G_is_integer := ok_is_integer (P := P) (w := w) (base := base) (a := a) F_is_integer T
    have G_is_number := ok_is_number (P := P) (w := w) (base := base) (a := a) F_is_number T G_is_integer b_is_integer
    have G_Ratio___init__ := ok_Ratio___init__ (P := P) (w := w) (base := base) (a := a) F_Ratio___init__ T G_is_integer b_is_integer
    have G_as_ratio := ok_as_ratio (P := P) (w := w) (base := base) (a := a) F_as_ratio T G_Ratio___init__ b_Ratio___init__ d_Ratio___init__
    have G_difference := ok_difference (P := P) (w := w) (base := base) (a := a) F_difference T
    have G_Ratio___add__ := ok_Ratio___add__ (P := P) (w := w) (base := base) (a := a) F_Ratio___add__ T G_Ratio___init__ b_Ratio___init__ d_Ratio___init__ G_as_ratio b_as_ratio G_is_number b_is_number
    have G_Ratio___sub__ := ok_Ratio___sub__ (P := P) (w := w) (base := base) (a := a) F_Ratio___sub__ T G_Ratio___init__ b_Ratio___init__ d_Ratio___init__ G_difference b_difference G_as_ratio b_as_ratio G_is_number b_is_number
    have G_Ratio___mul__ := ok_Ratio___mul__ (P := P) (w := w) (base := base) (a := a) F_Ratio___mul__ T G_Ratio___init__ b_Ratio___init__ d_Ratio___init__ G_as_ratio b_as_ratio G_is_number b_is_number
    have G_Ratio___eq__ := ok_Ratio___eq__ (P := P) (w := w) (base := base) (a := a) F_Ratio___eq__ T
    have G__law_common := ok__law_common (P := P) (w := w) (base := base) (a := a) F__law_common T
    have G__law_pair := ok__law_pair (P := P) (w := w) (base := base) (a := a) F__law_pair T G__law_common b__law_common
    have G__law_pair_of := ok__law_pair_of (P := P) (w := w) (base := base) (a := a) F__law_pair_of T
    have G__law_odd := ok__law_odd (P := P) (w := w) (base := base) (a := a) F__law_odd T G__law_of b__law_of
    have G_written := ok_written (P := P) (w := w) (base := base) (a := a) F_written T
    have G__has_figures_alone := ok__has_figures_alone (P := P) (w := w) (base := base) (a := a) F__has_figures_alone T
    have G__worth := ok__worth (P := P) (w := w) (base := base) (a := a) F__worth T
    have G_Ratio_text := ok_Ratio_text (P := P) (w := w) (base := base) (a := a) F_Ratio_text T G_written b_written
    have G_read_ratio := ok_read_ratio (P := P) (w := w) (base := base) (a := a) F_read_ratio T G_Ratio_text b_Ratio_text G_Ratio___init__ b_Ratio___init__ d_Ratio___init__ G__worth b__worth G__has_figures_alone b__has_figures_alone
    have G_check_point := ok_check_point (P := P) (w := w) (base := base) (a := a) F_check_point T G_init b_init
    have G_Point___init__ := ok_Point___init__ (P := P) (w := w) (base := base) (a := a) F_Point___init__ T G_as_ratio b_as_ratio G_is_number b_is_number G_init b_init
    have G_read_point := ok_read_point (P := P) (w := w) (base := base) (a := a) F_read_point T G_Point___init__ b_Point___init__ G_read_ratio b_read_ratio
    have G_Point_text := ok_Point_text (P := P) (w := w) (base := base) (a := a) F_Point_text T G_Ratio_text b_Ratio_text
    have G_Point_of := ok_Point_of (P := P) (w := w) (base := base) (a := a) F_Point_of T G_read_point b_read_point
    have G_Point___eq__ := ok_Point___eq__ (P := P) (w := w) (base := base) (a := a) F_Point___eq__ T G_Ratio___eq__ b_Ratio___eq__
    have G_Point___add__ := ok_Point___add__ (P := P) (w := w) (base := base) (a := a) F_Point___add__ T G_Point___init__ b_Point___init__ G_Ratio___add__ b_Ratio___add__
    have G_Point___sub__ := ok_Point___sub__ (P := P) (w := w) (base := base) (a := a) F_Point___sub__ T G_Point___init__ b_Point___init__ G_Ratio___sub__ b_Ratio___sub__
    have G_Point_towards := ok_Point_towards (P := P) (w := w) (base := base) (a := a) F_Point_towards T G_Point___init__ b_Point___init__ G_Ratio___add__ b_Ratio___add__ G_Ratio___mul__ b_Ratio___mul__ G_Ratio___sub__ b_Ratio___sub__ G_is_number b_is_number G_init b_init G_check_point b_check_point
    have G__law_ratio_text := ok__law_ratio_text (P := P) (w := w) (base := base) (a := a) F__law_ratio_text T
    have G__law_is_int := ok__law_is_int (P := P) (w := w) (base := base) (a := a) F__law_is_int T
    have G__law_drawn := ok__law_drawn (P := P) (w := w) (base := base) (a := a) F__law_drawn T G__law_pair b__law_pair G__law_of b__law_of G__law_take b__law_take
    have G__law_with := ok__law_with (P := P) (w := w) (base := base) (a := a) F__law_with T G__law_pair b__law_pair
    have G__law_number := ok__law_number (P := P) (w := w) (base := base) (a := a) F__law_number T G__law_take b__law_take G_Ratio___init__ b_Ratio___init__ d_Ratio___init__
    have G__law_point := ok__law_point (P := P) (w := w) (base := base) (a := a) F__law_point T G_Point___init__ b_Point___init__ G__law_number b__law_number
    have G__law_is_at := ok__law_is_at (P := P) (w := w) (base := base) (a := a) F__law_is_at T G__law_pair_of b__law_pair_of
    have G__law_made_right := ok__law_made_right (P := P) (w := w) (base := base) (a := a) F__law_made_right T G__law_is_at b__law_is_at G_Point___eq__ b_Point___eq__ G_Point_towards b_Point_towards G__law_number b__law_number G_Point___sub__ b_Point___sub__ G_Point___add__ b_Point___add__ G__law_with b__law_with G__law_point b__law_point G_Point_text b_Point_text G_Point_of b_Point_of G__law_ratio_text b__law_ratio_text G__law_drawn b__law_drawn
    have Gt := ok_told (P := P) (w := w) (base := base) (a := a) F__law_told T
    have G__law_odd_right := ok_odd_right (P := P) (w := w) (base := base) (a := a) T l__law_odd_right c__law_odd_right (TB (cA__law_odd_right, Pt__law_odd_right) (by simp)) Gt b__law_told G_Point_towards b_Point_towards G__law_odd b__law_odd G_Point___init__ b_Point___init__ G__law_is_int b__law_is_int G_Ratio___init__ b_Ratio___init__ d_Ratio___init__
    exact ok_law (a := a) (Pt := Pt__law_odd_right) F_law T G__law_places b__law_places G__law_odd_right b__law_odd_right G__law_made_right b__law_made_right G__law_pot b__law_pot
end My

open PySem PySem.W PyProof.Rows
local macro_rules | `(tactic| walk_at "k_none") => `(tactic| first | kernel_rfl | rfl | decide +kernel)
set_option maxRecDepth 100000 in
set_option maxHeartbeats 0 in
theorem PySem.Challenge.cw_seenabout_k04_points_holds : PySem.Challenge.rw_seenabout_k04_points.Holds := by
  w_on; o_law; k_head; (case hw => w_witness2)
  k_fill
  refine G.walkOfT (l := PySem.Challenge.rw_seenabout_k04_points) (n := 63) (k := 14) (x := "_law_script") (names := ["_law_odd_right"]) rfl (by decide) rfl ⟨rfl, by decide, by decide⟩ (by rfl) (fun w h Y => PySem.W.km_in_of Y) ?F
  case F =>
    intro w mg fa h KX G hmg tabs
    refine' My.all_mk KX G hmg (tabs _ (by simp)) ?n_abs ?n_all ?n_bool ?n_int ?n_isinstance ?n_len ?n_list ?n_max ?n_min ?n_range ?n_repr ?n_divmod ?n_str ?n_zip ?gP ?gF ?gG ?g_AboutError ?g_BadNumber ?g_BadPoint ?x_AboutError ?x_BadNumber ?x_BadPoint ?i0 ?tI ?sp ?tk ?eb ?g_Ratio ?g_Point ?l_init ?c_init ?k_init ?g__law_told ?l__law_told ?c__law_told ?k__law_told ?g__law_pot ?l__law_pot ?c__law_pot ?k__law_pot ?g__law_take ?l__law_take ?c__law_take ?k__law_take ?g__law_of ?l__law_of ?c__law_of ?k__law_of ?g__law_places ?l__law_places ?c__law_places ?k__law_places ?g_is_integer ?l_is_integer ?c_is_integer ?k_is_integer ?g_is_number ?l_is_number ?c_is_number ?k_is_number ?g_Ratio___init__ ?l_Ratio___init__ ?c_Ratio___init__ ?k_Ratio___init__ ?d_Ratio___init__ ?r_Ratio___init__ ?g_as_ratio ?l_as_ratio ?c_as_ratio ?k_as_ratio ?g_difference ?l_difference ?c_difference ?k_difference ?g_Ratio___add__ ?l_Ratio___add__ ?c_Ratio___add__ ?k_Ratio___add__ ?g_Ratio___sub__ ?l_Ratio___sub__ ?c_Ratio___sub__ ?k_Ratio___sub__ ?g_Ratio___mul__ ?l_Ratio___mul__ ?c_Ratio___mul__ ?k_Ratio___mul__ ?g_Ratio___eq__ ?l_Ratio___eq__ ?c_Ratio___eq__ ?k_Ratio___eq__ ?g__law_common ?l__law_common ?c__law_common ?k__law_common ?g__law_pair ?l__law_pair ?c__law_pair ?k__law_pair ?g__law_pair_of ?l__law_pair_of ?c__law_pair_of ?k__law_pair_of ?g__law_odd ?l__law_odd ?c__law_odd ?k__law_odd ?g_written ?l_written ?c_written ?k_written ?g__has_figures_alone ?l__has_figures_alone ?c__has_figures_alone ?k__has_figures_alone ?g__worth ?l__worth ?c__worth ?k__worth ?pa_Ratio ?pb_Ratio ?pc_Ratio ?pd_Ratio ?l_Ratio_text ?c_Ratio_text ?k_Ratio_text ?g_read_ratio ?l_read_ratio ?c_read_ratio ?k_read_ratio ?g_check_point ?l_check_point ?c_check_point ?k_check_point ?g_Point___init__ ?l_Point___init__ ?c_Point___init__ ?k_Point___init__ ?g_read_point ?l_read_point ?c_read_point ?k_read_point ?pa_Point ?pb_Point ?pc_Point ?pd_Point ?l_Point_text ?c_Point_text ?k_Point_text ?sc_Point ?sd_Point ?sa_Point ?sb_Point ?l_Point_of ?c_Point_of ?k_Point_of ?g_Point___eq__ ?l_Point___eq__ ?c_Point___eq__ ?k_Point___eq__ ?g_Point___add__ ?l_Point___add__ ?c_Point___add__ ?k_Point___add__ ?g_Point___sub__ ?l_Point___sub__ ?c_Point___sub__ ?k_Point___sub__ ?g_Point_towards ?l_Point_towards ?c_Point_towards ?k_Point_towards ?g__law_ratio_text ?l__law_ratio_text ?c__law_ratio_text ?k__law_ratio_text ?g__law_is_int ?l__law_is_int ?c__law_is_int ?k__law_is_int ?g__law_drawn ?l__law_drawn ?c__law_drawn ?k__law_drawn ?g__law_with ?l__law_with ?c__law_with ?k__law_with ?g__law_number ?l__law_number ?c__law_number ?k__law_number ?g__law_point ?l__law_point ?c__law_point ?k__law_point ?g__law_is_at ?l__law_is_at ?c__law_is_at ?k__law_is_at ?g__law_made_right ?l__law_made_right ?c__law_made_right ?k__law_made_right ?g__law_odd_right ?l__law_odd_right ?c__law_odd_right ?k__law_odd_right ?o__law_odd_right ?v__law_odd_right ?t__law_odd_right ?g_law ?l_law ?c_law ?k_law ?ri1 ?ri4 ?ri5 ?ri6 ?ri7 ?ri8 ?cl1 ?cl2 ?cl3 ?cl4 ?mk1 ?mk2 ?mk3 ?eq1 ?eq2 ?eq3 ?ri1P ?ri4P ?ri5P ?ri6P ?ri7P ?ri8P ?cl1P ?cl2P ?cl3P ?cl4P ?mk1P ?mk2P ?mk3P ?eq1P ?eq2P ?eq3P ?nN ?nU ?nX ?nY ?rRP ?rPR ?r_add ?o_add ?r_sub ?o_sub ?r_mul ?o_mul ?sfP ?fa_P ?fs_P ?ft_P ?xBBadNumber ?tBBadNumber ?xBBadPoint ?tBBadPoint
    (case n_abs => k_is)
    (case n_all => k_is)
    (case n_bool => k_is)
    (case n_int => k_is)
    (case n_isinstance => k_is)
    (case n_len => k_is)
    (case n_list => k_is)
    (case n_max => k_is)
    (case n_min => k_is)
    (case n_range => k_is)
    (case n_repr => k_is)
    (case n_divmod => k_is)
    (case n_str => k_is)
    (case n_zip => k_is)
    (case gP => k_is)
    (case gF => k_is)
    (case gG => k_is)
    (case g_AboutError => k_is)
    (case g_BadNumber => k_is)
    (case g_BadPoint => k_is)
    (case x_AboutError => k_is)
    (case x_BadNumber => k_is)
    (case x_BadPoint => k_is)
    (case i0 => k_is)
    (case tI => k_is)
    (case sp => k_is)
    (case tk => k_is)
    (case eb => kernel_rfl)
    (case g_Ratio => k_is)
    (case g_Point => k_is)
    (case l_init => k_is)
    (case c_init => k_is)
    (case k_init => k_is)
    (case g__law_told => k_is)
    (case l__law_told => k_is)
    (case c__law_told => k_is)
    (case k__law_told => k_is)
    (case g__law_pot => k_is)
    (case l__law_pot => k_is)
    (case c__law_pot => k_is)
    (case k__law_pot => k_is)
    (case g__law_take => k_is)
    (case l__law_take => k_is)
    (case c__law_take => k_is)
    (case k__law_take => k_is)
    (case g__law_of => k_is)
    (case l__law_of => k_is)
    (case c__law_of => k_is)
    (case k__law_of => k_is)
    (case g__law_places => k_is)
    (case l__law_places => k_is)
    (case c__law_places => k_is)
    (case k__law_places => k_is)
    (case g_is_integer => k_is)
    (case l_is_integer => k_is)
    (case c_is_integer => k_is)
    (case k_is_integer => k_is)
    (case g_is_number => k_is)
    (case l_is_number => k_is)
    (case c_is_number => k_is)
    (case k_is_number => k_is)
    (case g_Ratio___init__ => k_is)
    (case l_Ratio___init__ => k_is)
    (case c_Ratio___init__ => k_is)
    (case k_Ratio___init__ => k_is)
    (case d_Ratio___init__ => k_is)
    (case r_Ratio___init__ => first | exact .cons ⟨_, rfl⟩ .nil | exact .cons rfl .nil)
    (case g_as_ratio => k_is)
    (case l_as_ratio => k_is)
    (case c_as_ratio => k_is)
    (case k_as_ratio => k_is)
    (case g_difference => k_is)
    (case l_difference => k_is)
    (case c_difference => k_is)
    (case k_difference => k_is)
    (case g_Ratio___add__ => k_is)
    (case l_Ratio___add__ => k_is)
    (case c_Ratio___add__ => k_is)
    (case k_Ratio___add__ => k_is)
    (case g_Ratio___sub__ => k_is)
    (case l_Ratio___sub__ => k_is)
    (case c_Ratio___sub__ => k_is)
    (case k_Ratio___sub__ => k_is)
    (case g_Ratio___mul__ => k_is)
    (case l_Ratio___mul__ => k_is)
    (case c_Ratio___mul__ => k_is)
    (case k_Ratio___mul__ => k_is)
    (case g_Ratio___eq__ => k_is)
    (case l_Ratio___eq__ => k_is)
    (case c_Ratio___eq__ => k_is)
    (case k_Ratio___eq__ => k_is)
    (case g__law_common => k_is)
    (case l__law_common => k_is)
    (case c__law_common => k_is)
    (case k__law_common => k_is)
    (case g__law_pair => k_is)
    (case l__law_pair => k_is)
    (case c__law_pair => k_is)
    (case k__law_pair => k_is)
    (case g__law_pair_of => k_is)
    (case l__law_pair_of => k_is)
    (case c__law_pair_of => k_is)
    (case k__law_pair_of => k_is)
    (case g__law_odd => k_is)
    (case l__law_odd => k_is)
    (case c__law_odd => k_is)
    (case k__law_odd => k_is)
    (case g_written => k_is)
    (case l_written => k_is)
    (case c_written => k_is)
    (case k_written => k_is)
    (case g__has_figures_alone => k_is)
    (case l__has_figures_alone => k_is)
    (case c__has_figures_alone => k_is)
    (case k__has_figures_alone => k_is)
    (case g__worth => k_is)
    (case l__worth => k_is)
    (case c__worth => k_is)
    (case k__worth => k_is)
    (case pa_Ratio => k_is)
    (case pb_Ratio => k_is)
    (case pc_Ratio => k_is)
    (case pd_Ratio => k_is)
    (case l_Ratio_text => k_is)
    (case c_Ratio_text => k_is)
    (case k_Ratio_text => k_is)
    (case g_read_ratio => k_is)
    (case l_read_ratio => k_is)
    (case c_read_ratio => k_is)
    (case k_read_ratio => k_is)
    (case g_check_point => k_is)
    (case l_check_point => k_is)
    (case c_check_point => k_is)
    (case k_check_point => k_is)
    (case g_Point___init__ => k_is)
    (case l_Point___init__ => k_is)
    (case c_Point___init__ => k_is)
    (case k_Point___init__ => k_is)
    (case g_read_point => k_is)
    (case l_read_point => k_is)
    (case c_read_point => k_is)
    (case k_read_point => k_is)
    (case pa_Point => k_is)
    (case pb_Point => k_is)
    (case pc_Point => k_is)
    (case pd_Point => k_is)
    (case l_Point_text => k_is)
    (case c_Point_text => k_is)
    (case k_Point_text => k_is)
    (case sc_Point => k_is)
    (case sd_Point => k_is)
    (case sa_Point => k_is)
    (case sb_Point => k_is)
    (case l_Point_of => k_is)
    (case c_Point_of => k_is)
    (case k_Point_of => k_is)
    (case g_Point___eq__ => k_is)
    (case l_Point___eq__ => k_is)
    (case c_Point___eq__ => k_is)
    (case k_Point___eq__ => k_is)
    (case g_Point___add__ => k_is)
    (case l_Point___add__ => k_is)
    (case c_Point___add__ => k_is)
    (case k_Point___add__ => k_is)
    (case g_Point___sub__ => k_is)
    (case l_Point___sub__ => k_is)
    (case c_Point___sub__ => k_is)
    (case k_Point___sub__ => k_is)
    (case g_Point_towards => k_is)
    (case l_Point_towards => k_is)
    (case c_Point_towards => k_is)
    (case k_Point_towards => k_is)
    (case g__law_ratio_text => k_is)
    (case l__law_ratio_text => k_is)
    (case c__law_ratio_text => k_is)
    (case k__law_ratio_text => k_is)
    (case g__law_is_int => k_is)
    (case l__law_is_int => k_is)
    (case c__law_is_int => k_is)
    (case k__law_is_int => k_is)
    (case g__law_drawn => k_is)
    (case l__law_drawn => k_is)
    (case c__law_drawn => k_is)
    (case k__law_drawn => k_is)
    (case g__law_with => k_is)
    (case l__law_with => k_is)
    (case c__law_with => k_is)
    (case k__law_with => k_is)
    (case g__law_number => k_is)
    (case l__law_number => k_is)
    (case c__law_number => k_is)
    (case k__law_number => k_is)
    (case g__law_point => k_is)
    (case l__law_point => k_is)
    (case c__law_point => k_is)
    (case k__law_point => k_is)
    (case g__law_is_at => k_is)
    (case l__law_is_at => k_is)
    (case c__law_is_at => k_is)
    (case k__law_is_at => k_is)
    (case g__law_made_right => k_is)
    (case l__law_made_right => k_is)
    (case c__law_made_right => k_is)
    (case k__law_made_right => k_is)
    (case g__law_odd_right => k_is)
    (case l__law_odd_right => k_is)
    (case c__law_odd_right => k_is)
    (case k__law_odd_right => k_is)
    (case o__law_odd_right => k_is)
    (case v__law_odd_right => rfl)
    (case t__law_odd_right => walk_at "k_none")
    (case g_law => k_is)
    (case l_law => k_is)
    (case c_law => k_is)
    (case k_law => k_is)
    (case ri1 => k_is)
    (case ri4 => kernel_rfl)
    (case ri5 => kernel_rfl)
    (case ri6 => kernel_rfl)
    (case ri7 => kernel_rfl)
    (case ri8 => kernel_rfl)
    (case cl1 => k_is)
    (case cl2 => k_is)
    (case cl3 => k_is)
    (case cl4 => k_is)
    (case mk1 => k_is)
    (case mk2 => k_is)
    (case mk3 => k_is)
    (case eq1 => k_is)
    (case eq2 => k_is)
    (case eq3 => kernel_rfl)
    (case ri1P => k_is)
    (case ri4P => kernel_rfl)
    (case ri5P => kernel_rfl)
    (case ri6P => kernel_rfl)
    (case ri7P => kernel_rfl)
    (case ri8P => kernel_rfl)
    (case cl1P => k_is)
    (case cl2P => k_is)
    (case cl3P => k_is)
    (case cl4P => k_is)
    (case mk1P => k_is)
    (case mk2P => k_is)
    (case mk3P => k_is)
    (case eq1P => k_is)
    (case eq2P => k_is)
    (case eq3P => kernel_rfl)
    (case nN => k_is)
    (case nU => k_is)
    (case nX => k_is)
    (case nY => k_is)
    (case rRP => kernel_rfl)
    (case rPR => kernel_rfl)
    (case r_add => k_is)
    (case o_add => kernel_rfl)
    (case r_sub => k_is)
    (case o_sub => kernel_rfl)
    (case r_mul => k_is)
    (case o_mul => kernel_rfl)
    (case sfP => kernel_rfl)
    (case fa_P => k_is)
    (case fs_P => k_is)
    (case ft_P => k_is)
    (case xBBadNumber => kernel_rfl)
    (case tBBadNumber => kernel_rfl)
    (case xBBadPoint => kernel_rfl)
    (case tBBadPoint => kernel_rfl)
