import PyProof.Rows.All
import Wide.All
import OpenK.AllK
import Wide.FinOn
import HandS.ForMost
import HandS.Exc
import HandS.ExcInit
import HandS.IsInst
import HandS.TupAny
import HandS.Conv
import HandS.Wide
import HandS.Deep
import KE.KExcIs
import HandS.Gcd
import HandS.Evl
import HandS.Walk
import PySem.Challenge.RW_seenabout_k00_errors_keep_their_value
set_option Elab.async false
set_option linter.all false
set_option maxRecDepth 100000
set_option maxHeartbeats 4000000
/-! A layer over HandS: defs that are entered while nothing shows itself (so that repr may be told). -/
namespace G
open PySem PySem.Spec PyProof.Rows L2

abbrev Quiet (A : Around) : Prop := A.guards = some []

structure Fn (P : Program) (w : World) (K : PySem.W.Frag) (mg : Str → Option Value) (base : Heap) (CX : CXT) (k : Nat) (f : Addr) (fd : FuncData) (ps : List Str) (sp : Sp) : Prop where
  len : ∀ vs H Q E, sp vs H Q E → vs.length = ps.length
  run : ∀ (A : Around) (outer : List Env) (s : Shared) (H : Hp) (args : Args) (us : List Value) (vs : List V) (Q : VK) (E : XK), Quiet A → Room k A →
    Env0 P w K mg base A outer s H → BindsTo s fd args (ps.zip us) → Vals vs us → sp vs H Q E → codeAny (model P w) A (.call (.ref f) args) (CR CX outer P w H s Q E) s

section
variable {P : Program} {w : World} {K : PySem.W.Frag} {mg : Str → Option Value} {base : Heap} {CX : CXT}
theorem Fn.mono {j k : Nat} {f : Addr} {fd : FuncData} {ps : List Str} {sp : Sp} (F : Fn P w K mg base CX j f fd ps sp) (h : j ≤ k) : Fn P w K mg base CX k f fd ps sp :=
  ⟨F.len, fun A outer s H args us vs Q E hq hr => F.run A outer s H args us vs Q E hq (hr.mono h)⟩
/-- what is told of all surroundings is told of quiet ones -/
theorem Fn.ofOk {k : Nat} {f : Addr} {fd : FuncData} {ps : List Str} {sp : Sp} (F : FnOk P w K mg base CX k f fd ps sp) : Fn P w K mg base CX k f fd ps sp :=
  ⟨F.len, fun A outer s H args us vs Q E _ hr => F.run A outer s H args us vs Q E hr⟩

theorem fnOf {k : Nat} {f : Addr} {name qual : Str} {params : Arguments} {body : List Stmt} {scope : Scope} {kV doc pm cdv ct oc : Value} {an od : Option Addr} {osl : Array (Option Value)} {N ps : List Str} {sp : Sp}
    (lk : K.lookup f = some ⟨oc, od, .func (PySem.W.fnOf name qual params body scope .none kV doc pm an cdv ct), osl⟩) (hcd : PySem.W.codeIn K cdv qual = true)
    (S : FnScope N ps scope) (len : ∀ vs H Q E, sp vs H Q E → vs.length = ps.length)
    (body_ok : ∀ (A : Around) (outer : List Env) (s : Shared) (H : Hp) (vs : List V) (Q : VK) (E : XK), Quiet A → Room k (A.deeper (envOfC qual scope s.heap.objs.size f cdv)) → sp vs H Q E →
      ∃ t, PSs (cxOf CX P w K mg base N qual scope f cdv A outer s H E) body t ∧ t { nx := fun _ H' => Q .non H', rt := Q } (start N vs) H) :
    Fn P w K mg base CX (k + 1) f (PySem.W.fnOf name qual params body scope .none kV doc pm an cdv ct) ps sp := by
  constructor
  · exact len
  intro A outer s H args us vs Q E hq hr e0 hb r hsp
  have hl : vs.length = ps.length := len _ _ _ _ hsp
  have inS : K.In s.heap := e0.mod.kin.keeps (fun b o e => (e0.bs b o e).1)
  have noL : s.heap.NoLimit := e0.mod.nolimit.keeps (fun b o e => (e0.bs b o e).1)
  have kinds : ∀ y ∈ ps.zip us, scope.names.lookup y.1 = some .local ∨ (scope.names.lookup y.1 = some .cell ∧ ((cellsFrom (s.heap.objs.size + 1) scope.names []).lookup y.1).isSome = true) := by
    rintro ⟨n, v⟩ hy
    cases S.par n (List.of_mem_zip hy).1 with
    | inl q => exact Or.inl q
    | inr q => exact Or.inr ⟨q, PySem.W.cellsFrom_some _ _ _ (Or.inl q)⟩
  apply codeAny_call_function hr.depth (inS _ _ lk) rfl S.co S.gen rfl (PySem.W.codeRec_of inS hcd)
  refine hb _ _ _ _ (wpAny_newFunctionEnv_cells S.kind kinds ?_)
  intro env he s1 x
  cases he
  constructor
  · exact noL.keeps x.toInCall.keep
  apply codeAny_func
  obtain ⟨t, ht, q0⟩ := body_ok A outer s H vs Q E hq (hr.deeper _) hsp
  have I := inv_start (CX := CX) (P := P) (w := w) (K := K) (mg := mg) (base := base) (E := E) S hr.hd e0 hl r x
  apply wpAny_mono (ht.run [] s1 (start N vs) H _ I q0)
  · intro fl s' hs
    cases fl with
    | ret u => obtain ⟨v, σ', H', J, rv, q⟩ := hs; exact ⟨v, H', J.os, J.bare, J.base, J.hok, rv, q⟩
    | next => obtain ⟨σ', H', J, q⟩ := hs; exact ⟨V.non, H', J.os, J.bare, J.base, J.hok, rfl, q⟩
    | brk => exact hs.elim fun _ z => z.elim fun _ z => z.2.elim
    | cont => exact hs.elim fun _ z => z.elim fun _ z => z.2.elim
  · intro e s' hs
    exact hs

theorem ok {x qual : Str} {st : Stmt} {f : Addr} {fd : FuncData} {N ps : List Str} {k : Nat} {sp : Sp} (F : Fun K x qual st f fd) (S : FnScope N ps (defScope st)) (len : ∀ vs H Q E, sp vs H Q E → vs.length = ps.length)
    (body_ok : ∀ (cdv : Value) (A : Around) (outer : List Env) (s : Shared) (H : Hp) (vs : List V) (Q : VK) (E : XK), Quiet A → Room k (A.deeper (envOfC qual (defScope st) s.heap.objs.size f cdv)) → sp vs H Q E →
      ∃ t, PSs (cxOf CX0 P w K mg base N qual (defScope st) f cdv A outer s H E).nox (defBody st) t ∧ t { nx := fun _ H' => Q .non H', rt := Q } (start N vs) H) :
    Fn P w K mg base CX0 (k + 1) f fd ps sp := by
  obtain ⟨_, _, _, _, _, _, cdv, _, _, rfl, lk, hcd⟩ := F.ex
  apply fnOf lk hcd S len
  intro A outer s H vs Q E hq hr hsp
  obtain ⟨t, h, q⟩ := body_ok cdv A outer s H vs Q E hq hr hsp
  exact ⟨t, h.nox, q⟩
end

section
variable {X : Cx} {CX : CXT} {k : Nat} {f C : Addr} {fd : FuncData} {ps : List Str} {sp : Sp} {dvs : List V} {ds : List Value} {E : XK} {x m : Str} {p pos apos : Pos} {e o : Expr} {es : List Expr} {ta : TE} {t : TA}
theorem runFn {pins : List (Addr × Obj)} {σ : L2.St} {H : Hp} {s : Shared} {Q : VK} {us : List Value} {vs : List V} (F : Fn X.prog X.w X.K X.mg X.base CX k f fd ps sp) (hq : Quiet X.A) (hr : Room k X.A) (hb : Binds X.K fd ps ds) (hd : Vals dvs ds)
    (hx : Passes CX X E) (I : Inv X pins σ H s) (r : Vals vs us) (h : sp (vs ++ dvs) H Q E) : wpAny (model X.prog X.w) X.A (call (.ref f) us) (EP X pins σ Q) X.xe s := by
  have r2 : Vals (vs ++ dvs) (us ++ ds) := r.append hd
  have hl : (us ++ ds).length = ps.length := r2.length.symm.trans (F.len _ _ _ _ h)
  apply wpAny_call
  apply codeAny_mono (F.run X.A X.stack s H ⟨us, []⟩ (us ++ ds) (vs ++ dvs) Q E hq hr I.env0 (hb s us I.kIn hl) r2 h)
  intro res s' done
  match res, done with
  | .error e, z => exact hx pins σ H s e s' I z
  | .ok (.ret u), z => exact I.after z
  | .ok .next, z => exact z.elim
  | .ok .brk, z => exact z.elim
  | .ok .cont, z => exact z.elim
/-- f(e, ..) -/
theorem pe_fn (F : Fn X.prog X.w X.K X.mg X.base CX k f fd ps sp) (hq : Quiet X.A) (hr : Room k X.A) (hg : Gl X x) (hm : X.mg x = some (.ref f)) (hk : PySem.W.keepIn X.K (.ref f) = true) (hb : Binds X.K fd ps ds) (hd : Vals dvs ds) (hx : Passes CX X E)
    (ha : PA X (e :: es) t) (hdb : (x == ("__debug__" : Str)) = false := by decide) (he : starEach (e :: es) X.env = (false, eval e X.env) :: starEach es X.env := by rfl) (hpl : (backTo pos (starEach es X.env)).any (·.1) = false := by rfl) :
    PE X (.Call (.Name x p) (e :: es) [] pos) (tCall sp dvs E t) := by
  constructor
  intro pins s σ H Q I h
  apply wpAny_Call_Name_kw
  apply ld_glob I hg hm _ hdb
  apply PySem.W.callWith_K (h₀ := X.base) I.ok.mod.kin hk _ he hpl
  apply thn (ha.run pos pins s σ H _ I h)
  rintro us s1 ⟨vs, H1, I1, r, q⟩
  exact ⟨I1.kIn, runFn F hq hr hb hd hx I1 r q⟩
/-- f() -/
theorem pe_fn0 (F : Fn X.prog X.w X.K X.mg X.base CX k f fd ps sp) (hq : Quiet X.A) (hr : Room k X.A) (hg : Gl X x) (hm : X.mg x = some (.ref f)) (hk : PySem.W.keepIn X.K (.ref f) = true) (hb : Binds X.K fd ps ds) (hd : Vals dvs ds) (hx : Passes CX X E)
    (hdb : (x == ("__debug__" : Str)) = false := by decide) : PE X (.Call (.Name x p) [] [] pos) (tCall sp dvs E tNil) := by
  constructor
  intro pins s σ H Q I h
  apply wpAny_Call_Name_kw
  apply ld_glob I hg hm _ hdb
  exact PySem.W.callWith_K0 I.kIn hk (runFn (us := []) F hq hr hb hd hx I .nil h)
end
end G

namespace G
open PySem PySem.Spec PyProof.Rows L2

/-! ### what a value of the abstract heap reads as, dicts with plain keys among it -/
def keyD : Key → PyData
  | .inl i => .int i
  | .inr x => .str x
mutual
inductive Da (H : Hp) : V → PyData → Prop
  | non : Da H .non .none
  | bl (b : Bool) : Da H (.bl b) (.bool b)
  | int (i : Int) : Da H (.int i) (.int i)
  | str (x : Str) : Da H (.str x) (.str x)
  | lst {a : Addr} {xs : List V} {ds : List PyData} : H a = some (.lst xs) → a ≠ sysModules → DaAll H xs ds → Da H (.ref a) (.list ds)
  | tup {a : Addr} {xs : List V} {ds : List PyData} : H a = some (.tup xs) → DaAll H xs ds → Da H (.ref a) (.tuple ds)
  | dct {a : Addr} {kvs : List (Key × V)} {ds : List PyData} : H a = some (.dK kvs) → DaAll H (kvs.map (·.2)) ds → Da H (.ref a) (.dict ((kvs.map fun p => keyD p.1).zip ds))
inductive DaAll (H : Hp) : List V → List PyData → Prop
  | nil : DaAll H [] []
  | cons {v : V} {vs : List V} {d : PyData} {ds : List PyData} : Da H v d → DaAll H vs ds → DaAll H (v :: vs) (d :: ds)
end
theorem DaAll.length {H : Hp} : ∀ {vs : List V} {ds : List PyData}, DaAll H vs ds → vs.length = ds.length
  | _, _, .nil => rfl
  | _, _, .cons _ t => congrArg (· + 1) (DaAll.length t)
mutual
theorem Da.same {H H' : Hp} (S : Same H H') : ∀ {v : V} {d : PyData}, Da H v d → Da H' v d
  | _, _, .non => .non
  | _, _, .bl b => .bl b
  | _, _, .int i => .int i
  | _, _, .str x => .str x
  | _, _, .lst e n t => .lst (S _ _ e) n (DaAll.same S t)
  | _, _, .tup e t => .tup (S _ _ e) (DaAll.same S t)
  | _, _, .dct e t => .dct (S _ _ e) (DaAll.same S t)
theorem DaAll.same {H H' : Hp} (S : Same H H') : ∀ {vs : List V} {ds : List PyData}, DaAll H vs ds → DaAll H' vs ds
  | _, _, .nil => .nil
  | _, _, .cons h t => .cons (Da.same S h) (DaAll.same S t)
end
theorem reads_keys {P : Program} {w : World} (h : Heap) : ∀ {es : List DictEntry} {kvs : List (Key × Value)}, Pairs (mixKind P w) es kvs → ReadsAll h (es.map (·.key)) (kvs.map fun p => keyD p.1) []
  | _, _, .nil => .nil
  | _, _, .cons (e := e) (kv := kv) hk _ t => by
    have h1 : Reads h e.key (keyD kv.1) [] := by
      rcases keyIs_shape (k := kv.1) (v := e.key) hk with ⟨i, t, e1, e2⟩ | ⟨x, t, e1, e2⟩
      · rw [e1, e2]; exact Reads.int i t
      · rw [e1, e2]; exact Reads.str x t
    exact ReadsAll.cons (as := []) (bs := []) h1 (reads_keys h t)
theorem vals_of_pairs {P : Program} {w : World} : ∀ {es : List DictEntry} {kvs : List (Key × Value)}, Pairs (mixKind P w) es kvs → es.map (·.val) = kvs.map (·.2)
  | _, _, .nil => rfl
  | _, _, .cons _ hv t => by rw [List.map_cons, List.map_cons, hv, vals_of_pairs t]
theorem KV.keys {kvs : List (Key × V)} {vs : List (Key × Value)} (r : KV kvs vs) : kvs.map (fun p => keyD p.1) = vs.map (fun p => keyD p.1) := by
  induction r with
  | nil => rfl
  | cons h _ ih => rw [List.map_cons, List.map_cons, h.1, ih]
theorem KV.valsV {kvs : List (Key × V)} {vs : List (Key × Value)} (r : KV kvs vs) : Vals (kvs.map (·.2)) (vs.map (·.2)) := by
  induction r with
  | nil => exact .nil
  | cons h _ ih => exact .cons h.2 ih

section
variable {X : Cx} {pins : List (Addr × Obj)} {σ : L2.St} {H : Hp} {s : Shared}
mutual
theorem Da.reads (I : Inv X pins σ H s) : ∀ {v : V} {d : PyData} {u : Value}, Da H v d → RelV v u → ∃ as, Reads s.heap u d as ∧ sysModules ∉ as
  | _, _, _, .non, r => by cases r; exact ⟨_, .none, by simp⟩
  | _, _, _, .bl b, r => by cases r; exact ⟨_, .bool b, by simp⟩
  | _, _, _, .int i, r => by obtain ⟨t, rfl⟩ := r; exact ⟨_, .int i t, by simp⟩
  | _, _, _, .str x, r => by obtain ⟨t, rfl⟩ := r; exact ⟨_, .str x t, by simp⟩
  | _, _, _, .lst e n t, r => by
    cases r
    obtain ⟨_, its, m, rv, ho⟩ := I.hok _ _ e
    obtain ⟨as, hr, hn⟩ := DaAll.reads I t rv
    exact ⟨_, .list ho rfl rfl hr, by simp only [List.mem_cons, not_or]; exact ⟨fun z => n z.symm, hn⟩⟩
  | _, _, _, .tup e t, r => by
    cases r
    obtain ⟨_, its, rv, o, ho, hc, m, hd⟩ := I.hok _ _ e
    obtain ⟨as, hr, hn⟩ := DaAll.reads I t rv
    exact ⟨_, .tuple ho hc hd hr, hn⟩
  | _, _, _, .dct (a := a) (kvs := kvs) (ds := ds) e t, r => by
    cases r
    obtain ⟨_, hs, vs, rel, o, es, ep, ho, hx, hd, hk, hp, _⟩ := I.hok _ _ e
    obtain ⟨bs, hr, hn⟩ := DaAll.reads I t (KV.valsV rel)
    have e1 : (((kvs.map fun p => keyD p.1).zip ds).map (·.1)) = vs.map fun p => keyD p.1 := by
      rw [List.map_fst_zip (by rw [List.length_map]; have := t.length; rw [List.length_map] at this; omega)]
      exact KV.keys rel
    have e2 : (((kvs.map fun p => keyD p.1).zip ds).map (·.2)) = ds :=
      List.map_snd_zip (by rw [List.length_map]; have := t.length; rw [List.length_map] at this; omega)
    refine ⟨_, .dict (as := []) (bs := bs) ho hx.1 hd ?_ ?_, ?_⟩
    · rw [e1]; exact reads_keys s.heap hp
    · rw [e2, vals_of_pairs hp]; exact hr
    · have : sysModules ≠ a := fun z => by rw [← z] at hs; exact absurd hs (by decide)
      simp only [List.append_nil, List.singleton_append, List.mem_cons, not_or]
      exact ⟨this, hn⟩
theorem DaAll.reads (I : Inv X pins σ H s) : ∀ {vs : List V} {ds : List PyData} {us : List Value}, DaAll H vs ds → Vals vs us → ∃ as, ReadsAll s.heap us ds as ∧ sysModules ∉ as
  | _, _, _, .nil, r => by cases r; exact ⟨_, .nil, by simp⟩
  | _, _, _, .cons h t, r => by
    cases r with
    | cons r1 r2 =>
      obtain ⟨as, q1, n1⟩ := Da.reads I h r1
      obtain ⟨bs, q2, n2⟩ := DaAll.reads I t r2
      exact ⟨_, .cons q1 q2, by rw [List.mem_append, not_or]; exact ⟨n1, n2⟩⟩
end
end

/-! ### data that is short enough to be shown -/
structure Gd (n k : Nat) (d : PyData) : Prop where
  short : d.leavesShort 13 = true
  show_ : d.showable = true
  depth : d.depth ≤ k
  weight : d.weight ≤ n
theorem Gd.mono {m n j k : Nat} {d : PyData} (g : Gd m j d) (h : m ≤ n) (h2 : j ≤ k) : Gd n k d := ⟨g.short, g.show_, Nat.le_trans g.depth h2, Nat.le_trans g.weight h⟩
theorem Gd.fits {n k : Nat} {d : PyData} (g : Gd n k d) (h : n ≤ 2 ^ 20) : d.shown.length ≤ sizeLine := PyData.shown_fits (by decide) (by decide) g.short (Nat.le_trans g.weight h)
/-- by a look: for written data -/
def gdB (n k : Nat) (d : PyData) : Bool := d.leavesShort 13 && (d.showable && (decide (d.depth ≤ k) && decide (d.weight ≤ n)))
theorem gdB_ok {n k : Nat} {d : PyData} (h : gdB n k d = true) : Gd n k d := by
  obtain ⟨h1, h⟩ := Bool.and_eq_true_iff.mp h
  obtain ⟨h2, h⟩ := Bool.and_eq_true_iff.mp h
  obtain ⟨h3, h4⟩ := Bool.and_eq_true_iff.mp h
  exact ⟨h1, h2, of_decide_eq_true h3, of_decide_eq_true h4⟩
theorem gd_all {n k : Nat} : ∀ {ds : List PyData}, (∀ d ∈ ds, Gd n k d) → PyData.leavesShortAll 13 ds = true ∧ PyData.showableAll ds = true ∧ PyData.depthAll ds ≤ k ∧ PyData.weightAll ds ≤ ds.length * (n + 1)
  | [], _ => ⟨by simp [PyData.leavesShortAll], by simp [PyData.showableAll], by simp [PyData.depthAll], by simp [PyData.weightAll]⟩
  | d :: ds, h => by
    obtain ⟨a, b, c, e⟩ := gd_all (fun x hx => h x (List.mem_cons_of_mem _ hx))
    have g := h d (List.mem_cons_self ..)
    refine ⟨by simp [PyData.leavesShortAll, g.short, a], by simp [PyData.showableAll, g.show_, b], ?_, ?_⟩
    · simp only [PyData.depthAll]; have := g.depth; omega
    · simp only [PyData.weightAll, List.length_cons, Nat.succ_mul]; have := g.weight; omega
theorem gd_tup {n k m N : Nat} {ds : List PyData} (h : ∀ d ∈ ds, Gd n k d) (hl : ds.length ≤ m) (hN : m * (n + 1) ≤ N) : Gd N (k + 1) (.tuple ds) := by
  obtain ⟨a, b, c, e⟩ := gd_all h
  have : ds.length * (n + 1) ≤ m * (n + 1) := Nat.mul_le_mul_right _ hl
  exact ⟨by simpa [PyData.leavesShort] using a, by simpa [PyData.showable] using b, by simp only [PyData.depth]; omega, by simp only [PyData.weight]; omega⟩
theorem gd_lst {n k m N : Nat} {ds : List PyData} (h : ∀ d ∈ ds, Gd n k d) (hl : ds.length ≤ m) (hN : m * (n + 1) ≤ N) : Gd N (k + 1) (.list ds) := by
  obtain ⟨a, b, c, e⟩ := gd_all h
  have : ds.length * (n + 1) ≤ m * (n + 1) := Nat.mul_le_mul_right _ hl
  exact ⟨by simpa [PyData.leavesShort] using a, by simpa [PyData.showable] using b, by simp only [PyData.depth]; omega, by simp only [PyData.weight]; omega⟩

section
variable {X : Cx}
/-- repr of data, where nothing shows itself -/
theorem call_reprD (hq : Quiet X.A) (hu : X.A.units + 64 < cLine) : CallR X (.builtin "repr") (fun xs H Q => ∃ v d n k, xs = [v] ∧ Da H v d ∧ Gd n k d ∧ (n ≤ 2 ^ 20 ∧ k ≤ 20) ∧ Q (.str d.shown) H) := by
  intro pins s σ H xs us Q I r h
  obtain ⟨v, d, n, k, rfl, hd, g, ⟨hn, hk⟩, q⟩ := h
  obtain ⟨u, rfl, ru⟩ := vals1 r
  have fits := g.fits hn
  have tail : ∀ (A : Addr), u = .ref A → wpAny (model X.prog X.w) X.A (call (.builtin "repr") [u]) (EP X pins σ Q) X.xe s := by
    rintro a rfl
    obtain ⟨as, hr, hns⟩ := Da.reads I hd ru
    refine repr_of_reads' (h₀ := s.heap) hr g.show_ (fun _ => hns) hq (by have := g.depth; omega) (fun _ _ z => z) (fun h' t tk hk => ?_) fits
    exact ⟨.str d.shown, H, I.kept hk, ⟨_, rfl⟩, q⟩
  cases hd with
  | non => cases ru; exact P.repr_of_none ⟨.str _, H, I.tok _, ⟨_, rfl⟩, q⟩
  | bl b =>
    cases ru
    refine P.repr_of_bool ?_
    exact ⟨.str _, H, I.tok _, ⟨_, rfl⟩, q⟩
  | int i =>
    obtain ⟨t, rfl⟩ := ru
    have hz : i.natAbs.log2 < 1920 := by have := g.show_; simpa [PyData.showable] using this
    exact P.repr_of_int hz ⟨.str _, H, I.tok _, ⟨_, rfl⟩, q⟩
  | str x =>
    obtain ⟨t, rfl⟩ := ru
    exact P.repr_of_str ⟨.str _, H, I.tok _, ⟨_, rfl⟩, q⟩ fits
  | lst e n t => cases ru; exact tail _ rfl
  | tup e t => cases ru; exact tail _ rfl
  | dct e t => cases ru; exact tail _ rfl
end
end G

namespace G
open PySem PySem.Spec PyProof.Rows L2

/-! ### errors of own classes as values: made, read, asked for their class -/
/-- what the written part says of an error's class -/
structure EC (K : PySem.W.Frag) (C : Addr) : Prop where
  ox : OexC K C
  hd : PySem.W.hasDictIn K C = true
  ga : PySem.W.findIn K (.ref C) "__getattribute__" = some (some (.builtin "BaseException.__getattribute__"))
  gg : PySem.W.findIn K (.ref C) "__getattr__" = some none
  nv : PySem.W.findIn K (.ref C) "value" = some none
  kl : PySem.W.findIn K (.ref C) "__class__" = some (some (.builtin "object.__class__"))
  ob : PySem.W.mroIn K C (.type "object") = some true
structure EK (K : PySem.W.Frag) : Prop where
  sp : PySem.W.specialIn K (.builtin "object.__class__") "__get__" = some (some (.builtin "getset_descriptor.__get__"))
  tk : PySem.W.takesIn K (.builtin "object.__class__") = some true
/-- an error of the class at C that keeps v -/
def ErrAt (H : Hp) (a C : Addr) (v : V) : Prop := ∃ d, H a = some (exo a C (some d)) ∧ H d = some (exd d [("value", v)])
theorem ErrAt.same {H H' : Hp} (S : Same H H') {a C : Addr} {v : V} (e : ErrAt H a C v) : ErrAt H' a C v := let ⟨d, h1, h2⟩ := e; ⟨d, S _ _ h1, S _ _ h2⟩
theorem EC.cls {K : PySem.W.Frag} {C : Addr} (T : EC K C) : (PySem.W.clsIn K C).isSome = true := by
  have h := T.hd
  unfold PySem.W.hasDictIn at h
  cases e : PySem.W.clsIn K C with
  | none => rw [e] at h; exact absurd h (by decide)
  | some c => rfl
section
variable {X : Cx}
theorem err_inst {pins : List (Addr × Obj)} {σ : L2.St} {H : Hp} {s : Shared} (I : Inv X pins σ H s) {a C : Addr} {v : V} (e : ErrAt H a C v) :
    ∃ (ox : Obj) (od : Obj) (mA : Str → Option Value) (dx : Addr), PySem.W.InstAt s.heap a ox C (some od) ∧ s.heap.Ns1 dx mA ∧ s.heap.get? dx = some od ∧ (∀ f, RelO (([("value", v)] : List (Str × V)).lookup f) (mA f)) := by
  obtain ⟨d, h1, h2⟩ := e
  obtain ⟨t1, ho⟩ := exo_at I.hok h1
  obtain ⟨mA, hn, hr⟩ := exd_at I.hok h2
  obtain ⟨o, es, ep, hd, hz⟩ := id hn
  exact ⟨_, o, mA, d, ⟨ho, rfl, rfl, hd⟩, hn, hd, hr⟩
/-- e.value -/
theorem pe_value {e : Expr} {te : TE} {pos : Pos} (he : PE X e te) (hb : attributeBase e "value" X.env (eval e X.env) = eval e X.env := by rfl) :
    PE X (.Attribute e "value" pos) (fun σ H Q => te σ H fun x H1 => ∃ a C v, x = .ref a ∧ EC X.K C ∧ ErrAt H1 a C v ∧ Q v H1) := by
  constructor
  intro pins s σ H Q I h
  refine attr_of hb (thn (he.run pins s σ H _ I h) ?_)
  rintro u s1 ⟨x, H1, I1, rx, a, C, v, rfl, T, ea, q⟩
  cases rx
  obtain ⟨ox, od, mA, dx, J, hn, hd, hr⟩ := err_inst I1 ea
  obtain ⟨od', hod, hl⟩ := lookIn_ns hn
  have eo : od' = od := Option.some.inj (hod.symm.trans hd)
  subst eo
  obtain ⟨u, hu, ru⟩ := RelO.some_of (v := v) (o := mA "value") (by have := hr "value"; simpa [List.lookup] using this)
  exact HandSPX.exc_get I1.kIn J T.ga T.gg T.ox.exC (PySem.W.findObj_own T.hd T.nv rfl (by rw [hl, hu])) (handed_of ru) ⟨v, H1, I1.tok _, ru, q⟩
/-- isinstance(e, C) of such an error -/
theorem call_isErr (S : EK X.K) : CallR X (.builtin "isinstance") (fun xs H Q => ∃ (a C : Addr) (v c : V) (u : Value) (b : Bool), xs = [.ref a, c] ∧ ClsV c u ∧ EC X.K C ∧ ErrAt H a C v ∧ PySem.W.kitOne X.K (.ref C) u = some b ∧ Q (.bl b) H) := by
  intro pins s σ H xs us Q I r h
  obtain ⟨a, C, v, c, u, b, rfl, k, T, ea, e, q⟩ := h
  obtain ⟨u1, u2, rfl, r1, r2⟩ := vals2 r
  have e2 := k.eq r2
  subst e2
  cases r1
  obtain ⟨ox, od, mA, dx, J, hn, hd, hr⟩ := err_inst I ea
  exact PySem.W.kia_one (PySem.W.kitx_exc (gt := none) T.cls T.ga T.gg T.ox.exC T.kl S.sp S.tk T.ob) I.kIn J e (fun z => nomatch z) fun tk => ⟨.bl b, H, I.tok tk, rfl, q⟩

/-- what __init__ of the errors promises: the first attribute, value -/
def spErrInit (K : PySem.W.Frag) : Sp := fun vs H Q _ => ∃ (a C : Addr) (v : V), vs = [.ref a, v] ∧ OexC K C ∧ PySem.W.findIn K (.ref C) "value" = some none ∧ H a = some (exo a C none) ∧
  ∀ dx, H dx = none → dx ≠ a → Q .non (upd (upd H dx (exd dx [("value", v)])) a (exo a C (some dx)))
/-- C(e): a new error of the class at C, with its dict -/
def tErr (C : Addr) (ta : TA) : TE := fun σ H Q => ta σ H fun vs H1 => ∃ v, vs = [v] ∧ ∀ a H2, H1 a = none → Same H1 H2 → ErrAt H2 a C v → Q (.ref a) H2
theorem pe_err {CX : CXT} {k : Nat} {fI C : Addr} {fd : FuncData} {x : Str} {e : Expr} {ta : TA} {p pos : Pos} (T : EC X.K C) (iC : PySem.W.findIn X.K (.ref C) "__init__" = some (some (.ref fI))) (tI : PySem.W.typeIn X.K (.ref fI) = some (.type "function"))
    (F : FnOk X.prog X.w X.K X.mg X.base CX k fI fd ["self", "value"] (spErrInit X.K)) (hr : Room (k + 1) X.A) (hb : Binds X.K fd ["self", "value"] []) (hx : Passes CX X (fun _ _ _ => False)) (hg : Gl X x) (hm : X.mg x = some (.ref C)) (ha : PA X [e] ta)
    (hdb : (x == ("__debug__" : Str)) = false := by decide) (he : starEach (e :: []) X.env = (false, eval e X.env) :: starEach [] X.env := by rfl) (hpl : (backTo pos (starEach [] X.env)).any (·.1) = false := by rfl) :
    PE X (.Call (.Name x p) [e] [] pos) (tErr C ta) := by
  constructor
  intro pins s σ H Q I h
  obtain ⟨nm, q, N, bs, bm, sn, sub, ab, col, dd, k0, k1, k2, k3, k5, hC, hbm⟩ := T.ox.cls
  apply wpAny_Call_Name_kw
  apply ld_glob I hg hm _ hdb
  apply PySem.W.callWith_K (h₀ := X.base) I.ok.mod.kin T.ox.kC _ he hpl
  apply thn (ha.run pos pins s σ H _ I h)
  rintro us s1 ⟨vs, H1, I1, r1, v, rfl, q1⟩
  refine ⟨I1.kIn, ?_⟩
  obtain ⟨u, rfl, ru⟩ := vals1 r1
  show wpAny _ _ (call (.ref C) [u]) _ _ _
  obtain ⟨hp, g, dr, tk, os⟩ := s1
  have up : hp.objs.size ≤ hp.objs.size + 1 := Nat.le_succ _
  have fresh : H1 (hp.objs.size + 1) = none := I1.hok.fresh up
  have keep : ∀ b o, hp.get? b = some o → ((hp.push (PySem.W.kdv_tup [u])).push (PySem.HandSPX.excO C hp.objs.size)).get? b = some o := fun b o z => Heap.get?_push_of_some _ (Heap.get?_push_of_some _ z)
  have here : ((hp.push (PySem.W.kdv_tup [u])).push (PySem.HandSPX.excO C hp.objs.size)).get? (hp.objs.size + 1) = some (PySem.HandSPX.excO C hp.objs.size) := by heap_get
  have J := I1.laid (t' := tk) (a := hp.objs.size + 1) (o := exo (hp.objs.size + 1) C none) keep up (exo_ok here)
  have sp : spErrInit X.K [.ref (hp.objs.size + 1), v] (upd H1 (hp.objs.size + 1) (exo (hp.objs.size + 1) C none)) (fun w H2 => w = .non ∧ Q (.ref (hp.objs.size + 1)) H2) (fun _ _ _ => False) := by
    refine ⟨hp.objs.size + 1, C, v, rfl, T.ox, T.nv, upd_same, fun dx hdx hne => ⟨rfl, q1 _ _ fresh ?_ ⟨dx, upd_same, ?_⟩⟩⟩
    · intro b o z
      rw [upd_ne hne] at hdx
      rw [upd_ne (ne_of_none z fresh), upd_ne (ne_of_none z hdx), upd_ne (ne_of_none z fresh)]
      exact z
    · rw [upd_ne hne]; exact upd_same
  apply wpAny_call
  apply PySem.HandSPX.call_own F_ve (fun Y => PySem.HandSPX.refsVE_contains Y bm hbm) (I1.kIn _ _ hC) (PySem.W.looks_findIn I1.kIn iC) (fun self => PySem.W.bind_fn I1.kIn self tI) (by rw [List.length_singleton, sizeLine_eq]; omega)
  have B := hb ⟨(hp.push (PySem.W.kdv_tup [u])).push (PySem.HandSPX.excO C hp.objs.size), g, dr, tk, os⟩ [.ref (hp.objs.size + 1), u] J.kIn rfl
  apply codeAny_mono (F.run _ X.stack _ _ ⟨[.ref (hp.objs.size + 1), u], []⟩ [.ref (hp.objs.size + 1), u] [.ref (hp.objs.size + 1), v] _ (fun _ _ _ => False) (hr.make C [u] []) (J.env0.make C [u] []) B (.cons rfl (.cons ru .nil)) sp)
  intro res s' done
  match res, done with
  | .error er, z => exact hx pins σ _ _ er s' J z
  | .ok .next, z => exact z.elim
  | .ok .brk, z => exact z.elim
  | .ok .cont, z => exact z.elim
  | .ok (.ret w), z =>
    obtain ⟨y, H2, J2, ry, ey, q2⟩ := J.after z
    subst ey
    exact ⟨ry, .ref (hp.objs.size + 1), H2, J2, rfl, q2⟩
where F_ve := PySem.F.excBase_ValueError
end
end G

namespace G
open PySem PySem.Spec PyProof.Rows L2

/-! ### the law's own call, entered while nothing shows itself -/
theorem lawCall {P : Program} {w : World} {K : PySem.W.Frag} {mg mb : Str → Option Value} {k : Nat} {fa a : Addr} {fd : FuncData} {x : Str} {sp : Sp} {s₁ : Shared} {vs : List Value} {ns : List Int}
    (KX : K.In s₁.heap) (glob : s₁.heap.Ns mainGlobals mg) (bltn : s₁.heap.Ns builtinsNs mb) (boot : ∀ x : Str, x ≠ "__name__" → mb x = bootBuiltins x) (lim : s₁.heap.NoLimit) (gens : s₁.gens = #[])
    (obj : s₁.heap.get? a = some { cls := .type "list", data := .seq vs.toArray }) (nums : IntsAre vs ns) (short : ns.length ≤ sizeLine) (room : Room k callerA)
    (F : ∀ base : Heap, K.In base → base.Ns mainGlobals mg → Fn P w K mg base CX0 k fa fd [x] sp) (bind : ∀ (s : Shared) (u : Value), BindsTo s fd ⟨[u], []⟩ [(x, u)])
    (told : ∀ H : Hp, Only H → SqL K H a (ns.map V.int) → sp [.ref a] H (fun v _ => v = .bl true) fun _ _ _ => False) :
    codeAny (model P w) callerA (.call (.ref fa) ⟨[.ref a], []⟩) (fun r s' => r = .ok (.ret (.bool true)) ∧ OldK s₁.heap s'.heap ∧ s'.os = s₁.os ∧ AllBare s'.gens) s₁ := by
  have rv := vals_ints nums
  have lenV := nums.length
  -- over an abstract heap that knows of the script at most
  suffices core : ∀ H : Hp, Only H → SqL K H a (ns.map V.int) → HOk P w H s₁.heap → (∀ b, H b ≠ none → b = a) → (H a ≠ none → K.lookup a = none) →
      codeAny (model P w) callerA (.call (.ref fa) ⟨[.ref a], []⟩) (fun r s' => r = .ok (.ret (.bool true)) ∧ OldK s₁.heap s'.heap ∧ s'.os = s₁.os ∧ AllBare s'.gens) s₁ by
    cases hk : K.lookup a with
    | some o =>
      have z := KX a o hk
      rw [obj] at z
      obtain rfl := Option.some.inj z
      apply core (fun _ => none) (fun _ => Or.inl rfl)
      · exact Or.inr ⟨_, vs.toArray, _, hk, rfl, rfl, rfl, by rw [List.size_toArray, lenV]; exact short, by simpa using rv⟩
      · intro b u z
        exact absurd (show (none : Option HO) = some u from z) (by simp)
      · exact fun b z => absurd rfl z
      · exact fun z => absurd rfl z
    | none =>
      apply core (fun b => if b = a then some (.frz { cls := .type "list", data := .seq vs.toArray } (.lst (ns.map V.int))) else none)
      · intro b
        by_cases hb : b = a
        · exact Or.inr ⟨_, _, if_pos hb⟩
        · exact Or.inl (if_neg hb)
      · exact Or.inl (Or.inr ⟨{ cls := .type "list", data := .seq vs.toArray }, if_pos rfl⟩)
      · intro b u z
        by_cases hb : b = a
        · obtain rfl := Option.some.inj ((if_pos hb).symm.trans z)
          rw [hb]
          exact ⟨obj, by rw [List.length_map]; exact short, vs, _, rv, obj⟩
        · exact absurd ((if_neg hb).symm.trans z) (by simp)
      · intro b z
        by_cases hb : b = a
        · exact hb
        · exact absurd (if_neg hb) z
      · exact fun _ => hk
  intro H hO hS hok hA hK
  have dictFree : ∀ {b : Addr} {o : Obj} {es : Array DictEntry} {ep : Nat}, s₁.heap.get? b = some o → o.data = .dict es ep → H b = none := by
    intro b o es ep e d
    cases q : H b with
    | none => rfl
    | some u =>
      obtain rfl := hA b (by rw [q]; simp)
      rw [obj] at e
      obtain rfl := Option.some.inj e
      exact absurd (show Data.seq vs.toArray _ = Data.dict es ep from d) (by simp)
  have nsB : ∀ {b : Addr} {m : Str → Option Value}, s₁.heap.Ns b m → (hidT s₁.heap H).Ns b m := by
    rintro b m ⟨o, es, ep, e, d, r⟩
    exact ⟨o, es, ep, hidT_get e (dictFree e d), d, r⟩
  have inB : K.In (hidT s₁.heap H) := by
    intro b o e
    apply hidT_get (KX b o e)
    cases q : H b with
    | none => rfl
    | some u =>
      obtain rfl := hA b (by rw [q]; simp)
      rw [hK (by rw [q]; simp)] at e
      exact absurd e (by simp)
  have M : Mod K mg (hidT s₁.heap H) := by
    obtain ⟨mc, l1, l2⟩ := lim
    exact ⟨inB, nsB glob, ⟨mb, nsB bltn, boot⟩, ⟨mc, nsB l1, l2⟩⟩
  have none_in : ∀ b : Addr, ¬ b ∈ frs ([] : List Env) := fun b z => absurd (show b ∈ ([] : List Addr) from z) (by simp)
  have e0 : Env0 P w K mg (hidT s₁.heap H) callerA [] s₁ H := ⟨rfl, M, fun b o e => of_hidT e, Nat.le_of_eq (hidT_size _ _), trivial, fun b hb => absurd hb (none_in b), hok, .of_eq gens⟩
  apply codeAny_mono ((F _ inB (nsB glob)).run callerA [] s₁ H ⟨[.ref a], []⟩ [.ref a] [.ref a] _ _ rfl room e0 (bind s₁ (.ref a)) (.cons rfl .nil) (told H hO hS))
  intro r s' h
  match r, h with
  | .error e, h => exact h.elim
  | .ok .next, h => exact h.elim
  | .ok .brk, h => exact h.elim
  | .ok .cont, h => exact h.elim
  | .ok (.ret u), h =>
    obtain ⟨v, H', os, bare, un, hok', r', q⟩ := h
    obtain rfl : v = .bl true := q
    obtain rfl : u = Value.bool true := r'
    refine ⟨rfl, OldK.of_keep fun b o e => ?_, os, bare⟩
    cases q : H b with
    | none => exact un.keep b o e q (none_in b) (by simp)
    | some u =>
      rcases hO b with z | ⟨ob, xs, z⟩
      · rw [q] at z; cases z
      · obtain ⟨e1, _⟩ := hok b _ z
        obtain ⟨e2, _⟩ := hok' b _ (un.frzs b ob _ z)
        rw [e] at e1
        obtain rfl := Option.some.inj e1
        exact e2
theorem walkOf {l : PySem.W.OpenLaw} {n k : Nat} {q : Program} {loose : List Str} {XP : (Str → Option Value) → Heap → Prop} {YP : World → Heap → Prop} {d : DefRec} {K : Params → PySem.W.Frag} {sp : PySem.W.Frag → Sp} {x : Str}
    (hn : l.most = some n) (hn2 : n ≤ sizeLine) (hdf : d.params.defaults = []) (hr : Room k callerA) (hY : ∀ (w : World) (h : Heap), YP w h → (K w.params).In h)
    (F : ∀ (w : World) (mg : Str → Option Value) (fa : Addr) (h : Heap), (K w.params).In h → h.Ns mainGlobals mg → mg d.name = some (.ref fa) →
      ∃ fd : FuncData, (∀ (s : Shared) (u : Value), BindsTo s fd ⟨[u], []⟩ [(x, u)]) ∧ ∀ base : Heap, (K w.params).In base → base.Ns mainGlobals mg → Fn l.prog w (K w.params) mg base CX0 k fa fd [x] (sp (K w.params)))
    (told : ∀ (K : PySem.W.Frag) (H : Hp) (a : Addr) (ns : List Int), ns.length ≤ n → Only H → SqL K H a (ns.map V.int) → sp K [.ref a] H (fun v _ => v = .bl true) fun _ _ _ => False) :
    PySem.W.WalkO q loose XP YP l.row.toRowW d [] (fun f vs => PySem.call f vs) := by
  apply Att.attach_call hn hdf
  intro w s₀ s₁ mg mb fa o pm cd doc a vs ns G Y ho hd hcd hmg hobj hints hlen hg
  have KX := hY w _ Y
  obtain ⟨fd, hb, hF⟩ := F w mg fa _ KX G.T.g hmg
  exact lawCall KX G.T.g G.T.b G.T.builtins G.T.nolimit hg hobj hints (Nat.le_trans hlen hn2) hr hF hb fun H hO hS => told (K w.params) H a ns hlen hO hS
end G

namespace G
open PySem PySem.Spec PyProof.Rows L2 HT

/-! ### further operators -/
/-- a ** b of greater ints -/
def CPowW (i j : Int) : Prop := 2 ≤ i ∧ 1 ≤ j ∧ ((Builtin.Int.intBits i : Nat) : Int) * j ≤ 100000
section
variable {X : Cx}
theorem op_powW : OpR X (binaryOp .Pow) (rI CPowW fun i j => .int (i ^ j.toNat)) := opI fun i j t u s Q E hc q => by
  obtain ⟨h1, h2, h3⟩ := hc
  have n0 : ¬ (j == 0) = true := by simp; omega
  have n1 : ¬ (i == 0 || i == 1) = true := by simp; omega
  have n2 : ¬ (i == -1) = true := by simp; omega
  have n3 : ¬ Builtin.Int.intTooBig (((Builtin.Int.intBits i : Nat) : Int) * j) = true := by
    have e : bitsLine = 134217728 := by decide
    unfold Builtin.Int.intTooBig
    rw [e]
    intro z
    have := of_decide_eq_true z
    omega
  exact PySem.AutoIntOps.pow_4 (by omega) n0 n1 n2 n3 q
end

section
variable {prog : Program} {w : World} {A : Around} {E : Value → Shared → Prop} {s : Shared}
theorem fm_map {α β : Type} {f : α → Option β} {g : α → β} : ∀ (l : List α), (∀ m ∈ l, f m = some (g m)) → l.filterMap f = l.map g
  | [], _ => rfl
  | a :: r, h => by rw [List.filterMap_cons, h a (List.mem_cons_self ..), List.map_cons, fm_map r fun m hm => h m (List.mem_cons_of_mem _ hm)]
theorem back_run (xs : List Value) : ((List.range xs.length).filterMap fun (m : Nat) => xs.toArray[((xs.length : Int) - 1 + (m : Int) * (-1)).toNat]?) = xs.reverse := by
  apply List.ext_getElem?
  intro i
  have e : ((List.range xs.length).filterMap fun (m : Nat) => xs.toArray[((xs.length : Int) - 1 + (m : Int) * (-1)).toNat]?) = (List.range xs.length).map fun (m : Nat) => (xs[xs.length - 1 - m]?).getD .none := by
    apply fm_map
    intro m hm
    have hm' : m < xs.length := List.mem_range.mp hm
    have e1 : ((xs.length : Int) - 1 + (m : Int) * (-1)).toNat = xs.length - 1 - m := by omega
    rw [e1, List.getElem?_toArray, List.getElem?_eq_getElem (by omega)]
    rfl
  rw [e, List.getElem?_map]
  by_cases hi : i < xs.length
  · rw [List.getElem?_range hi, Option.map_some, List.getElem?_eq_getElem (by omega), List.getElem?_reverse hi, List.getElem?_eq_getElem (by omega)]
    rfl
  · rw [List.getElem?_eq_none (by simpa using hi), List.getElem?_eq_none (by rw [List.length_reverse]; omega)]
    rfl
theorem getItem_tuple_back {t sl : Addr} {its : List Value} {u : Tok} {Q : Value → Shared → Prop} (ht : IsTup s.heap t its.toArray) (hs : s.heap.IsSliceOf sl .none .none (.int (-1) u)) (hsz : its.length ≤ sizeLine)
    (h : Q (.ref s.heap.objs.size) { s with heap := s.heap.push { cls := .type "tuple", data := .seq its.reverse.toArray } }) : wpAny (model prog w) A (getItem (.ref t) (.ref sl)) Q E s := by
  have big : sizeOk (.seq its.reverse.toArray) := by
    show its.reverse.toArray.size ≤ sizeLine
    rw [List.size_toArray, List.length_reverse]; exact hsz
  obtain ⟨os, hos, hcs, hds⟩ := id hs
  have hTs : s.TypeIs (.ref sl) "slice" := ⟨os, hos, hcs⟩
  unfold getItem
  try with_reducible refine wpAny_holding ?_
  first | refine wpAny_bind (wpAny_pure ?_) | skip
  apply wpAny_bind
  apply wpAny_sequenceKey ht.typeIs (by decide)
  apply wpAny_bind
  apply wpAny_callSpecial?_slot (name := Str.ofString "__getitem__") ht.typeIs PyProof.Rows.slot_tuple_getitem
  refine wpAny_call_entry PyProof.Rows.slot_tuple_getitem ht.typeIs entry_tuple_getitem ?_ (args_tuple_getitem _ _)
  show wpAny _ _ (Builtin.Tuple.tupleItemsOf (.ref t) >>= _) _ _ s
  apply wpAny_bind
  apply tupleItemsOf_ ht
  apply wpAny_bind
  apply wpAny_typeOf hTs
  rw [if_pos (by decide)]
  apply wpAny_bind
  unfold Builtin.Slice.sliceApplied Builtin.Slice.sliceFields
  apply wpAny_bind
  refine wpAny_bind (wpAny_field hos hds (x := .none) rfl (wpAny_bind (wpAny_field hos hds (x := .none) rfl (wpAny_bind (wpAny_field hos hds (x := .int (-1) u) rfl (wpAny_pure ?_))))))
  apply wpAny_bind
  apply slicePart_int
  show wpAny _ _ (if ((-1 : Int) == 0) = true then _ else _) _ _ s
  rw [if_neg (by decide)]
  refine wpAny_bind (slicePart_none (wpAny_bind (slicePart_none (wpAny_bind (wpAny_pure ?_)))))
  show wpAny _ _ (match Builtin.Slice.sliceAdjust none none (-1) (its.toArray.size : Int) with | (lo, hi) => pure (lo, (-1 : Int), Builtin.Slice.slicePlaces lo hi (-1))) _ _ s
  have e1 : Builtin.Slice.sliceAdjust none none (-1) (its.toArray.size : Int) = ((its.length : Int) - 1, -1) := by
    unfold Builtin.Slice.sliceAdjust
    have h1 : ((-1 : Int) < 0) := by omega
    simp [h1]
  have e2 : Builtin.Slice.slicePlaces ((its.length : Int) - 1) (-1) (-1) = its.length := by
    unfold Builtin.Slice.slicePlaces
    simp
    split <;> omega
  rw [e1]
  show wpAny _ _ (pure ((its.length : Int) - 1, (-1 : Int), Builtin.Slice.slicePlaces ((its.length : Int) - 1) (-1) (-1))) _ _ s
  rw [e2]
  refine wpAny_pure ?_
  have no : ¬ ((((its.length : Int) - 1 == 0) && ((-1 : Int) == 1) && (its.length == its.toArray.size)) = true) := by
    have : ((-1 : Int) == 1) = false := by decide
    rw [this, Bool.and_false, Bool.false_and]
    exact Bool.false_ne_true
  show wpAny _ _ (if ((((its.length : Int) - 1 == 0) && ((-1 : Int) == 1) && (its.length == its.toArray.size)) = true) then _ else _) _ _ s
  rw [if_neg no, back_run]
  first
    | exact wpAny_bind (m := Builtin.Tuple.tupleExact _) (wpAny_newObj_type (wpAny_pure ⟨_, rfl, wpAny_pure h⟩) big)
    | exact wpAny_bind (m := Builtin.Tuple.tupleExact _) (wpAny_newObj_type (wpAny_bind (wpAny_pure (wpAny_pure ⟨_, rfl, wpAny_pure h⟩))) big)
    | exact wpAny_bind (wpAny_bind (m := Builtin.Tuple.tupleExact _) (wpAny_newObj_type (wpAny_pure (wpAny_pure ⟨_, rfl, wpAny_pure h⟩)) big))
    | exact wpAny_bind (wpAny_bind (m := Builtin.Tuple.tupleExact _) (wpAny_newObj_type (wpAny_pure ⟨_, rfl, wpAny_pure h⟩) big))
end
section
variable {X : Cx}
/-- t[::-1], t a tuple -/
def tRevT (te : TE) : TE := fun σ H Q => te σ H fun x H1 => ∃ a xs, x = .ref a ∧ H1 a = some (.tup xs) ∧ ∀ p, H1 p = none → Q (.ref p) (upd H1 p (.tup xs.reverse))
theorem pe_revT {e : Expr} {te : TE} {k : Nat} {p1 p2 p3 pos : Pos} (he : PE X e te) : PE X (.Subscript e (.Slice none none (some (.UnaryOp .USub (.Constant (.int 1) k p1) p2)) p3) pos) (tRevT te) := by
  constructor
  intro pins s σ H Q I h
  apply Subscript_
  apply thn (he.run pins s σ H _ I h)
  rintro v s1 ⟨x, H1, I1, r1, a, xs, rfl, hx, q⟩
  cases r1
  have part : PO X (some (.UnaryOp .USub (.Constant (.int 1) k p1) p2)) (tPart (tUn (rU fun i => .int (-i)) (tC (.int 1)))) := po_some (pe_un un_neg pe_int)
  apply wpAny_Slice
  apply thn (po_none.run pins s1 σ H1 (fun o H2 => o = none ∧ H2 = H1) I1 ⟨rfl, rfl⟩)
  rintro vl s2 ⟨l, H2, I2, pl, rfl, rfl⟩
  apply thn (po_none.run pins s2 σ H2 (fun o H3 => o = none ∧ H3 = H2) I2 ⟨rfl, rfl⟩)
  rintro vu s3 ⟨u, H3, I3, pu, rfl, rfl⟩
  apply thn (part.run pins s3 σ H3 (fun o H4 => o = some (-1) ∧ H4 = H3) I3 ⟨1, rfl, -1, rfl, rfl, rfl⟩)
  rintro vs s4 ⟨o, H4, I4, ps, rfl, rfl⟩
  cases pl
  cases pu
  cases ps with
  | int _ tk =>
  have I5 : Inv X pins σ H4 { s4 with heap := s4.heap.push { cls := .type "slice", data := .fields #[.none, .none, .int (-1) tk] } } := I4.kept (t' := s4.toks) fun b ob z => Heap.get?_push_of_some _ z
  obtain ⟨hz, its, r, ht⟩ := I5.hok a _ hx
  have hl := r.length
  show wpAny (model X.prog X.w) X.A (subscriptTail e (.Slice none none (some (.UnaryOp .USub (.Constant (.int 1) k p1) p2)) p3) (.ref a) (.ref s4.heap.objs.size)) (EP X pins σ Q) X.xe { s4 with heap := s4.heap.push { cls := .type "slice", data := .fields #[.none, .none, .int (-1) tk] } }
  apply tail_any (ops := [.ref a, .ref s4.heap.objs.size]) (IsTup.typeIs ht) PyProof.Rows.slot_tuple_getitem.lookup _ (by with_unfolding_all rfl)
  apply getItem_tuple_back ht (Heap.IsSliceOf.new _ .none .none (.int (-1) tk)) (by omega)
  refine ⟨.ref _, _, I5.laid (t' := s4.toks) (o := .tup xs.reverse) (fun b ob z => Heap.get?_push_of_some _ z) (Nat.le_refl _) ?_, rfl, q _ (I5.hok.fresh (Nat.le_refl _))⟩
  exact ⟨by rw [List.length_reverse]; exact hz, _, r.reverse, ⟨_, Heap.get?_push_size _ rfl, rfl, _, rfl⟩⟩
/-- a list display, whose place is not the table of modules -/
def tLstS (t : TA) : TE := fun σ H Q => t σ H fun xs H1 => xs.length ≤ sizeLine ∧ ∀ p, H1 p = none → p ≠ sysModules → Q (.ref p) (upd H1 p (.lst xs))
theorem pe_lstS {es : List Expr} {t : TA} {pos : Pos} (h : PA X es t) : PE X (.List es pos) (tLstS t) := by
  constructor
  intro pins s σ H Q I hq
  apply wpAny_List_spliced
  apply thn (h.run pos pins s σ H _ I hq)
  rintro us s1 ⟨xs, H1, I1, r, z, q⟩
  refine ⟨by rw [← r.length]; exact z, ?_⟩
  refine ⟨.ref s1.heap.objs.size, upd H1 s1.heap.objs.size (.lst xs), I1.laid (t' := s1.toks) (fun b u e => Heap.get?_push_of_some _ e) (Nat.le_refl _) ?_, rfl, q _ (I1.hok.fresh (Nat.le_refl _)) (Nat.ne_of_gt I1.big)⟩
  exact ⟨z, us, 0, r, Heap.get?_push_size _ rfl⟩
end
end G

namespace G
open PySem PySem.Spec PyProof.Rows L2

/-! ### data apart from some addresses -/
open Classical in
noncomputable def mask (N : Addr → Prop) (H : Hp) : Hp := fun b => if N b then none else H b
theorem mask_out {N : Addr → Prop} {H : Hp} {b : Addr} (h : ¬ N b) : mask N H b = H b := by unfold mask; rw [if_neg h]
theorem mask_in {N : Addr → Prop} {H : Hp} {b : Addr} (h : N b) : mask N H b = none := by unfold mask; rw [if_pos h]
theorem mask_some {N : Addr → Prop} {H : Hp} {b : Addr} {o : HO} (h : mask N H b = some o) : ¬ N b ∧ H b = some o := by
  by_cases e : N b
  · rw [mask_in e] at h; cases h
  · rw [mask_out e] at h; exact ⟨e, h⟩
theorem mask_le (N : Addr → Prop) (H : Hp) : Same (mask N H) H := fun b o h => (mask_some h).2
theorem mask_mono {N : Addr → Prop} {H H' : Hp} (S : Same H H') : Same (mask N H) (mask N H') := fun b o h => by
  rw [mask_out (mask_some h).1]; exact S b o (mask_some h).2
theorem mask_less {N M : Addr → Prop} {H : Hp} (h : ∀ b, M b → N b) : Same (mask N H) (mask M H) := fun b o e => by
  rw [mask_out fun z => (mask_some e).1 (h b z)]; exact (mask_some e).2
theorem same_new {H : Hp} {q : Addr} {o : HO} (h : H q = none) : Same H (upd H q o) := fun b u e => by rw [upd_ne (ne_of_none e h)]; exact e

def Is (N : Addr → Prop) (H : Hp) (G : PyData → Prop) (v : V) : Prop := ∃ d, Da (mask N H) v d ∧ G d
theorem Is.same {N : Addr → Prop} {H H' : Hp} {G : PyData → Prop} {v : V} (S : Same H H') (h : Is N H G v) : Is N H' G v := let ⟨d, a, g⟩ := h; ⟨d, a.same (mask_mono S), g⟩
theorem Is.less {N M : Addr → Prop} {H : Hp} {G : PyData → Prop} {v : V} (h : ∀ b, M b → N b) (x : Is N H G v) : Is M H G v := let ⟨d, a, g⟩ := x; ⟨d, a.same (mask_less h), g⟩
theorem Is.imp {N : Addr → Prop} {H : Hp} {G G' : PyData → Prop} {v : V} (h : ∀ d, G d → G' d) (x : Is N H G v) : Is N H G' v := let ⟨d, a, g⟩ := x; ⟨d, a, h d g⟩
theorem is_int {N : Addr → Prop} {H : Hp} {G : PyData → Prop} {i : Int} (g : G (.int i)) : Is N H G (.int i) := ⟨_, .int i, g⟩
theorem is_str {N : Addr → Prop} {H : Hp} {G : PyData → Prop} {x : Str} (g : G (.str x)) : Is N H G (.str x) := ⟨_, .str x, g⟩
theorem is_bl {N : Addr → Prop} {H : Hp} {G : PyData → Prop} {b : Bool} (g : G (.bool b)) : Is N H G (.bl b) := ⟨_, .bl b, g⟩
theorem is_non {N : Addr → Prop} {H : Hp} {G : PyData → Prop} (g : G .none) : Is N H G .non := ⟨_, .non, g⟩
theorem daAll_of {N : Addr → Prop} {H : Hp} {G : PyData → Prop} : ∀ {xs : List V}, (∀ x ∈ xs, Is N H G x) → ∃ ds, DaAll (mask N H) xs ds ∧ ds.length = xs.length ∧ ∀ d ∈ ds, G d
  | [], _ => ⟨[], .nil, rfl, fun _ h => nomatch h⟩
  | x :: xs, h => by
    obtain ⟨d, a, g⟩ := h x (List.mem_cons_self ..)
    obtain ⟨ds, b, l, gs⟩ := daAll_of (xs := xs) fun y hy => h y (List.mem_cons_of_mem _ hy)
    refine ⟨d :: ds, .cons a b, by rw [List.length_cons, List.length_cons, l], fun y hy => ?_⟩
    rcases List.mem_cons.mp hy with e | hy
    · rw [e]; exact g
    · exact gs y hy
theorem is_of_daAll {N : Addr → Prop} {H : Hp} {G : PyData → Prop} : ∀ {xs : List V} {ds : List PyData}, DaAll (mask N H) xs ds → (∀ d ∈ ds, G d) → ∀ x ∈ xs, Is N H G x
  | _, _, .nil, _, _, h => nomatch h
  | _, _, .cons (d := d) a b, g, x, h => by
    rcases List.mem_cons.mp h with e | h
    · rw [e]; exact ⟨d, a, g d (List.mem_cons_self ..)⟩
    · exact is_of_daAll b (fun y hy => g y (List.mem_cons_of_mem _ hy)) x h
theorem is_tup {N : Addr → Prop} {H : Hp} {G G' : PyData → Prop} {a : Addr} {xs : List V} (hN : ¬ N a) (ha : H a = some (.tup xs)) (hx : ∀ x ∈ xs, Is N H G' x) (g : ∀ ds : List PyData, ds.length = xs.length → (∀ d ∈ ds, G' d) → G (.tuple ds)) : Is N H G (.ref a) := by
  obtain ⟨ds, b, l, gs⟩ := daAll_of hx
  exact ⟨_, .tup (by rw [mask_out hN]; exact ha) b, g ds l gs⟩
theorem is_lst {N : Addr → Prop} {H : Hp} {G G' : PyData → Prop} {a : Addr} {xs : List V} (hN : ¬ N a) (ha : H a = some (.lst xs)) (hs : a ≠ sysModules) (hx : ∀ x ∈ xs, Is N H G' x) (g : ∀ ds : List PyData, ds.length = xs.length → (∀ d ∈ ds, G' d) → G (.list ds)) : Is N H G (.ref a) := by
  obtain ⟨ds, b, l, gs⟩ := daAll_of hx
  exact ⟨_, .lst (by rw [mask_out hN]; exact ha) hs b, g ds l gs⟩

/-! ### what evaluates to good data, leaving all that is tracked as it is -/
def EvG (N : Addr → Prop) (te : TE) (σ : L2.St) (H : Hp) (G : PyData → Prop) : Prop := ∀ H1, Same H H1 → ∀ Q : VK, (∀ v H2, Same H1 H2 → Is N H2 G v → Q v H2) → te σ H1 Q
def EvGA (N : Addr → Prop) (ta : TA) (σ : L2.St) (H : Hp) (G : PyData → Prop) (m : Nat) : Prop :=
  ∀ H1, Same H H1 → ∀ Q : List V → Hp → Prop, (∀ vs H2, Same H1 H2 → vs.length = m → (∀ x ∈ vs, Is N H2 G x) → Q vs H2) → ta σ H1 Q
section
variable {N : Addr → Prop} {σ : L2.St} {H : Hp} {G G' : PyData → Prop} {te : TE} {ta : TA} {m : Nat}
/-- only what is tracked is set apart -/
def Tr (N : Addr → Prop) (H : Hp) : Prop := ∀ b, N b → H b ≠ none
theorem Tr.same {H' : Hp} (t : Tr N H) (S : Same H H') : Tr N H' := fun b h => by
  cases e : H b with
  | none => exact absurd e (t b h)
  | some o => rw [S b o e]; simp
theorem Tr.new {q : Addr} (t : Tr N H) (h : H q = none) : ¬ N q := fun z => t q z h
theorem EvG.mono {H' : Hp} (S : Same H H') (h : EvG N te σ H G) : EvG N te σ H' G := fun H1 S1 Q q => h H1 (S.trans S1) Q q
theorem EvGA.mono {H' : Hp} (S : Same H H') (h : EvGA N ta σ H G m) : EvGA N ta σ H' G m := fun H1 S1 Q q => h H1 (S.trans S1) Q q
theorem evg_is {v : V} (h : ∀ H', Is N H' G v) : EvG N (tC v) σ H G := fun H1 _ Q q => q v H1 (Same.refl _) (h H1)
theorem evg_int {i : Int} (g : G (.int i)) : EvG N (tC (.int i)) σ H G := evg_is fun _ => is_int g
theorem evg_str {x : Str} (g : G (.str x)) : EvG N (tC (.str x)) σ H G := evg_is fun _ => is_str g
theorem evg_bl {b : Bool} (g : G (.bool b)) : EvG N (tC (.bl b)) σ H G := evg_is fun _ => is_bl g
theorem evg_non (g : G .none) : EvG N (tC .non) σ H G := evg_is fun _ => is_non g
theorem evg_neg {i : Int} (g : G (.int (-i))) : EvG N (tUn (rU fun i => .int (-i)) (tC (.int i))) σ H G := fun H1 _ Q q => ⟨i, rfl, q _ H1 (Same.refl _) (is_int g)⟩
theorem evg_pow {i j : Int} (c : CPowW i j) (g : G (.int (i ^ j.toNat))) : EvG N (tOp (rI CPowW fun i j => .int (i ^ j.toNat)) (tC (.int i)) (tC (.int j))) σ H G :=
  fun H1 _ Q q => ⟨i, j, rfl, rfl, c, q _ H1 (Same.refl _) (is_int g)⟩
theorem evg_var {i : Nat} {v : V} (h : σ[i]? = some (some v)) (x : Is N H G v) : EvG N (tVar i) σ H G := fun H1 S Q q => ⟨v, h, q v H1 (Same.refl _) (x.same S)⟩
theorem eva_nil : EvGA N tNil σ H G 0 := fun H1 _ Q q => q [] H1 (Same.refl _) rfl fun _ h => nomatch h
theorem eva_cons {tr : TA} (h : EvG N te σ H G) (hr : EvGA N tr σ H G m) : EvGA N (tCons te tr) σ H G (m + 1) := fun H1 S Q q =>
  h H1 S _ fun v H2 S2 x => hr H2 (S.trans S2) _ fun vs H3 S3 l xs => q (v :: vs) H3 (S2.trans S3) (by rw [List.length_cons, l]) fun y hy => by
    rcases List.mem_cons.mp hy with e | hy
    · rw [e]; exact x.same S3
    · exact xs y hy
theorem evg_tup (t : Tr N H) (h : EvGA N ta σ H G' m) (hm : m ≤ 1000) (g : ∀ ds : List PyData, ds.length = m → (∀ d ∈ ds, G' d) → G (.tuple ds)) : EvG N (tTup ta) σ H G := fun H1 S Q q =>
  h H1 S _ fun vs H2 S2 l xs => ⟨by rw [l, sizeLine_eq]; omega, fun p hp => q (.ref p) _ (S2.trans (same_new hp))
    (is_tup (((t.same S).same S2).new hp) upd_same (fun x hx => (xs x hx).same (same_new hp)) fun ds e => g ds (e.trans l))⟩
theorem evg_lst (t : Tr N H) (h : EvGA N ta σ H G' m) (hm : m ≤ 1000) (g : ∀ ds : List PyData, ds.length = m → (∀ d ∈ ds, G' d) → G (.list ds)) : EvG N (tLstS ta) σ H G := fun H1 S Q q =>
  h H1 S _ fun vs H2 S2 l xs => ⟨by rw [l, sizeLine_eq]; omega, fun p hp hs => q (.ref p) _ (S2.trans (same_new hp))
    (is_lst (((t.same S).same S2).new hp) upd_same hs (fun x hx => (xs x hx).same (same_new hp)) fun ds e => g ds (e.trans l))⟩
theorem evg_dnew (t : Tr N H) (g : G (.dict [])) : EvG N tDNewK σ H G := fun H1 S Q q p hp => q (.ref p) _ (same_new hp)
  ⟨_, .dct (kvs := []) (ds := []) (by rw [mask_out ((t.same S).new hp)]; exact upd_same) .nil, g⟩
/-- {'k': e} -/
theorem evg_dict1 {x : Str} (t : Tr N H) (h : ∀ q H1, Same H H1 → EvG (fun b => N b ∨ b = q) te σ H1 G') (g : ∀ d, G' d → G (.dict [(.str x, d)])) : EvG N (tDisp [(tC (.str x), te)]) σ H G := fun H1 S Q q p hp => by
  refine h p _ (S.trans (same_new hp)) _ (Same.refl _) _ fun v H2 S2 ⟨d, a, gd⟩ => ?_
  have e2 : H2 p = some (.dK []) := S2 _ _ upd_same
  refine ⟨e2, [(Sum.inr x, v)], rfl, by show 1 ≤ 15; decide, ?_⟩
  have keep : Same H1 (upd H2 p (.dK (mergeK [] [(Sum.inr x, v)]))) := fun b o e => by
    rw [upd_ne (ne_of_none e hp)]
    exact S2 b o (by rw [upd_ne (ne_of_none e hp)]; exact e)
  refine q (.ref p) _ keep ⟨_, .dct (kvs := [(Sum.inr x, v)]) (ds := [d]) (by rw [mask_out ((t.same S).new hp)]; exact upd_same) (.cons (a.same ?_) .nil), g d gd⟩
  intro b o e
  obtain ⟨nb, eb⟩ := mask_some e
  have n1 : ¬ N b := fun z => nb (Or.inl z)
  have n2 : b ≠ p := fun z => nb (Or.inr z)
  rw [mask_out n1, upd_ne n2]
  exact eb
/-- a new list of good data, where it is -/
theorem eva_list (t : Tr N H) (h : EvGA N ta σ H G m) (hm : m ≤ 1000) {Q : VK} (q : ∀ l xs H2, Same H H2 → H l = none → H2 l = some (.lst xs) → l ≠ sysModules → xs.length = m → (∀ x ∈ xs, Is N H2 G x) → Q (.ref l) H2) : tLstS ta σ H Q :=
  h H (Same.refl _) _ fun vs H2 S2 l xs => ⟨by rw [l, sizeLine_eq]; omega, fun p hp hs => q p vs _ (S2.trans (same_new hp)) (Same.free S2 hp) upd_same hs l fun x hx => (xs x hx).same (same_new hp)⟩
end
end G

namespace G
open PySem PySem.Spec PyProof.Rows L2
section
variable {X : Cx}
/-- list(t), t a tuple: the new list is not the table of modules -/
def rListT : List V → Hp → VK → Prop := fun xs H Q => ∃ p ys, xs = [.ref p] ∧ H p = some (.tup ys) ∧ ∀ l, H l = none → l ≠ sysModules → Q (.ref l) (upd H l (.lst ys))
theorem call_listT : CallR X (.type "list") rListT := by
  intro pins s σ H xs us Q I r h
  obtain ⟨p, ys, rfl, hp, q⟩ := h
  obtain ⟨u, rfl, rx⟩ := vals1 r
  cases rx
  obtain ⟨its, r', ⟨o, ho, hc, n, hd⟩, hz⟩ := I.tuple (SqT.of hp)
  have hlen := r'.length
  refine call_list_seq p (.inr rfl) ho hc hd (fun h' c' kp e => ?_) (by simp only [List.size_toArray] <;> omega)
  refine ⟨.ref s.heap.objs.size, _, I.laid (t' := s.toks) kp (Nat.le_refl _) (o := .lst ys) ⟨hz, its, c', r', e⟩, rfl, q _ (I.hok.fresh (Nat.le_refl _)) (Nat.ne_of_gt I.big)⟩
end

section
variable {K : PySem.W.Frag} {N : Addr → Prop} {σ : L2.St} {H : Hp} {G G' : PyData → Prop} {te tf : TE} {tl th : TO} {m : Nat}
/-! ### tuples: parts, sums, the other way about -/
theorem cutV_mem {xs : List V} {lo hi : Option Int} {x : V} (h : x ∈ cutV xs lo hi) : x ∈ xs := List.mem_of_mem_drop (List.mem_of_mem_take h)
theorem slA_any {a : Addr} {xs : List V} {lo hi : Option Int} {Q : VK} (ha : H a = some (.tup xs)) (q : ∀ b ys H1, Same H H1 → H1 b = some (.tup ys) → (b = a ∨ H b = none) → (∀ y ∈ ys, y ∈ xs) → ys.length ≤ xs.length → Q (.ref b) H1) : rSlA K (.ref a) lo hi H Q :=
  ⟨a, xs, rfl, SqT.of ha, fun _ => q a xs H (Same.refl _) ha (.inl rfl) (fun _ h => h) (Nat.le_refl _), fun _ p hp => q p _ _ (same_new hp) upd_same (.inr hp) (fun _ h => cutV_mem h) (cutV_length _ _ _)⟩
theorem catA_any {a b : Addr} {xs ys : List V} {Q : VK} (ha : H a = some (.tup xs)) (hb : H b = some (.tup ys)) (hz : xs.length + ys.length ≤ 100000)
    (q : ∀ c H1, Same H H1 → H1 c = some (.tup (xs ++ ys)) → (c = a ∨ c = b ∨ H c = none) → Q (.ref c) H1) : rCatA K (.ref a) (.ref b) H Q := by
  refine ⟨a, b, xs, ys, rfl, rfl, SqT.of ha, SqT.of hb, by rw [sizeLine_eq]; omega, fun e => ?_, fun e1 e2 => ?_, fun e1 e2 p hp => ?_⟩
  · exact q b H (Same.refl _) (by rw [e]; exact hb) (.inr (.inl rfl))
  · exact q a H (Same.refl _) (by rw [e2, List.append_nil]; exact ha) (.inl rfl)
  · exact q p _ (same_new hp) upd_same (.inr (.inr hp))
/-- a tuple of good data, outside of N -/
def IsT (N : Addr → Prop) (H : Hp) (G : PyData → Prop) (m : Nat) (v : V) : Prop := ∃ a xs, v = .ref a ∧ ¬ N a ∧ H a = some (.tup xs) ∧ xs.length ≤ m ∧ ∀ x ∈ xs, Is N H G x
theorem IsT.same {H' : Hp} {v : V} (S : Same H H') (h : IsT N H G m v) : IsT N H' G m v := by
  obtain ⟨a, xs, rfl, n, e, l, x⟩ := h
  exact ⟨a, xs, rfl, n, S _ _ e, l, fun y hy => (x y hy).same S⟩
theorem IsT.is {v : V} (h : IsT N H G' m v) (g : ∀ ds : List PyData, ds.length ≤ m → (∀ d ∈ ds, G' d) → G (.tuple ds)) : Is N H G v := by
  obtain ⟨a, xs, rfl, n, e, l, x⟩ := h
  exact is_tup n e x fun ds e2 => g ds (by omega)
def EvT (N : Addr → Prop) (te : TE) (σ : L2.St) (H : Hp) (G : PyData → Prop) (m : Nat) : Prop := ∀ H1, Same H H1 → ∀ Q : VK, (∀ v H2, Same H1 H2 → IsT N H2 G m v → Q v H2) → te σ H1 Q
/-- an optional part of a slice that is an int -/
def EvO (to : TO) (σ : L2.St) : Prop := ∀ (H1 : Hp) (Q : Option Int → Hp → Prop), (∀ o, Q o H1) → to σ H1 Q
theorem evo_none : EvO tNoPart σ := fun H1 Q q => q _
theorem evo_int {i : Int} : EvO (tPart (tC (.int i))) σ := fun H1 Q q => ⟨i, rfl, q _⟩
theorem evo_neg {i : Int} : EvO (tPart (tUn (rU fun i => .int (-i)) (tC (.int i)))) σ := fun H1 Q q => ⟨i, rfl, _, rfl, q _⟩
theorem evo_var {i : Nat} {j : Int} (h : σ[i]? = some (some (.int j))) : EvO (tPart (tVar i)) σ := fun H1 Q q => ⟨_, h, _, rfl, q _⟩
theorem evo_add {i : Nat} {j k : Int} (h : σ[i]? = some (some (.int j))) : EvO (tPart (tOp (rI0 fun i j => .int (i + j)) (tVar i) (tC (.int k)))) σ := fun H1 Q q => ⟨_, h, _, _, rfl, rfl, _, rfl, q _⟩
theorem EvT.g (h : EvT N te σ H G' m) (g : ∀ ds : List PyData, ds.length ≤ m → (∀ d ∈ ds, G' d) → G (.tuple ds)) : EvG N te σ H G := fun H1 S Q q => h H1 S Q fun v H2 S2 x => q v H2 S2 (x.is g)
theorem evt_var {i : Nat} {v : V} (h : σ[i]? = some (some v)) (x : IsT N H G m v) : EvT N (tVar i) σ H G m := fun H1 S Q q => ⟨v, h, q v H1 (Same.refl _) (x.same S)⟩
theorem evt_tup {ta : TA} (t : Tr N H) (h : EvGA N ta σ H G m) (hm : m ≤ 1000) : EvT N (tTup ta) σ H G m := fun H1 S Q q =>
  h H1 S _ fun vs H2 S2 l xs => ⟨by rw [l, sizeLine_eq]; omega, fun p hp => q (.ref p) _ (S2.trans (same_new hp)) ⟨p, vs, rfl, ((t.same S).same S2).new hp, upd_same, Nat.le_of_eq l, fun x hx => (xs x hx).same (same_new hp)⟩⟩
theorem evt_sl (t : Tr N H) (h : EvT N te σ H G m) (hl : EvO tl σ) (hh : EvO th σ) : EvT N (tSl (rSlA K) te tl th) σ H G m := fun H1 S Q q =>
  h H1 S _ fun v H2 S2 ⟨a, xs, ev, n, e, l, x⟩ => by
    subst ev
    refine hl H2 _ fun lo => hh H2 _ fun hi => slA_any e fun b ys H3 S3 e3 w sub l3 => ?_
    refine q _ H3 (S2.trans S3) ⟨b, ys, rfl, ?_, e3, by omega, fun y hy => (x y (sub y hy)).same S3⟩
    rcases w with w | w
    · rw [w]; exact n
    · exact ((t.same S).same S2).new w
theorem evt_cat {k : Nat} (t : Tr N H) (h : EvT N te σ H G m) (h2 : EvT N tf σ H G k) (hz : m + k ≤ 1000) : EvT N (tOp (rCatA K) te tf) σ H G (m + k) := fun H1 S Q q =>
  h H1 S _ fun v H2 S2 ⟨a, xs, ev, n, e, l, x⟩ => by
    subst ev
    refine h2 H2 (S.trans S2) _ fun w H3 S3 ⟨b, ys, ew, n3, e3, l3, x3⟩ => ?_
    subst ew
    refine catA_any (S3 _ _ e) e3 (by omega) fun c H4 S4 e4 wh => q _ H4 ((S2.trans S3).trans S4) ⟨c, _, rfl, ?_, e4, by rw [List.length_append]; omega, fun y hy => ?_⟩
    · rcases wh with z | z | z
      · rw [z]; exact n
      · rw [z]; exact n3
      · exact (((t.same S).same S2).same S3).new z
    · rcases List.mem_append.mp hy with z | z
      · exact ((x y z).same S3).same S4
      · exact (x3 y z).same S4
theorem evt_rev (t : Tr N H) (h : EvT N te σ H G m) : EvT N (tRevT te) σ H G m := fun H1 S Q q =>
  h H1 S _ fun v H2 S2 ⟨a, xs, ev, n, e, l, x⟩ => ⟨a, xs, ev, e, fun p hp => q _ _ (S2.trans (same_new hp)) ⟨p, _, rfl, ((t.same S).same S2).new hp, upd_same, by rw [List.length_reverse]; exact l, fun y hy => (x y (List.mem_reverse.mp hy)).same (same_new hp)⟩⟩
/-- list(t) -/
theorem evg_listT (t : Tr N H) (h : EvT N te σ H G' m) (g : ∀ ds : List PyData, ds.length ≤ m → (∀ d ∈ ds, G' d) → G (.list ds)) : EvG N (tCB rListT (tCons te tNil)) σ H G := fun H1 S Q q =>
  h H1 S _ fun v H2 S2 ⟨a, xs, ev, n, e, l, x⟩ => ⟨a, xs, by rw [ev], e, fun p hp hs => q _ _ (S2.trans (same_new hp))
    (is_lst (((t.same S).same S2).new hp) upd_same hs (fun y hy => (x y hy).same (same_new hp)) fun ds e2 => g ds (by omega))⟩
/-- a value by itself: what a reading leads to, for sure, the heap as it is -/
theorem evg_to {v : V} (h : ∀ (H1 : Hp) (Q : VK), Q v H1 → te σ H1 Q) (x : ∀ H', Is N H' G v) : EvG N te σ H G := fun H1 _ Q q => h H1 Q (q v H1 (Same.refl _) (x H1))
end
/-! data without dicts, for comparisons -/
mutual
theorem Da.dp {K : PySem.W.Frag} {H : Hp} : ∀ {v : V} {d : PyData}, Da H v d → d.canLay0 = true → Dp K H v d
  | _, _, .non, _ => .non
  | _, _, .bl b, _ => .bl b
  | _, _, .int i, _ => .int i
  | _, _, .str x, _ => .str x
  | _, _, .lst e _ t, h => .lst (SqL.of e) (DaAll.dp t (by simpa [PyData.canLay0] using h))
  | _, _, .tup e t, h => .tup (SqT.of e) (DaAll.dp t (by simpa [PyData.canLay0] using h))
  | _, _, .dct e t, h => by simp [PyData.canLay0] at h
theorem DaAll.dp {K : PySem.W.Frag} {H : Hp} : ∀ {vs : List V} {ds : List PyData}, DaAll H vs ds → PyData.canLayAll0 ds = true → DpAll K H vs ds
  | _, _, .nil, _ => .nil
  | _, _, .cons h t, e => by
    simp only [PyData.canLayAll0, Bool.and_eq_true] at e
    exact .cons (Da.dp h e.1) (DaAll.dp t e.2)
end
end G
namespace G
open PySem PySem.Spec PyProof.Rows L2
theorem s_set {te : TE} {i : Nat} {u : TS} {D : Ends} {σ : L2.St} {H : Hp} (h : te σ H fun x H1 => u D (σ.set i (some x)) H1) : tSeq (tAsg te (gName i)) u D σ H := h
theorem s_ret {te : TE} {D : Ends} {σ : L2.St} {H : Hp} (h : te σ H D.rt) : tRet te D σ H := h
theorem s_seq {t u : TS} {D : Ends} {σ : L2.St} {H : Hp} (h : t { D with nx := u D } σ H) : tSeq t u D σ H := h
theorem s_if {c : TT} {t u : TS} {D : Ends} {σ : L2.St} {H : Hp} (h : c σ H fun b H1 => if b = true then t D σ H1 else u D σ H1) : tIfS c t u D σ H := h
end G
namespace G
open PySem PySem.Spec PyProof.Rows L2
theorem t_op {r : R2} {ta tb : TE} {σ : L2.St} {H : Hp} {Q : VK} (h : ta σ H fun x H1 => tb σ H1 fun y H2 => r x y H2 Q) : tOp r ta tb σ H Q := h
theorem t_cons {ta : TE} {tr : TA} {σ : L2.St} {H : Hp} {Q : List V → Hp → Prop} (h : ta σ H fun x H1 => tr σ H1 fun xs H2 => Q (x :: xs) H2) : tCons ta tr σ H Q := h
end G

namespace G
open PySem PySem.Spec PyProof.Rows L2
/-! ### lists that are put together, with a word about their items -/
def EvP (ta : TA) (σ : L2.St) (H : Hp) (P : Hp → List V → Prop) (m : Nat) : Prop := ∀ H1, Same H H1 → ∀ Q : List V → Hp → Prop, (∀ vs H2, Same H1 H2 → vs.length = m → P H2 vs → Q vs H2) → ta σ H1 Q
def Stays (P : Hp → List V → Prop) : Prop := ∀ H H' vs, Same H H' → P H vs → P H' vs
section
variable {σ : L2.St} {H : Hp} {P P0 P1 : Hp → List V → Prop} {te : TE} {ta : TA} {m : Nat} {Q : VK}
theorem lstP (h : EvP ta σ H P m) (hm : m ≤ 1000) (st : Stays P) (k : ∀ p vs H', Same H H' → H p = none → H' p = some (.lst vs) → vs.length = m → P H' vs → Q (.ref p) H') : tLstS ta σ H Q :=
  h H (Same.refl _) _ fun vs H2 S2 l p => ⟨by rw [l, sizeLine_eq]; omega, fun a ha hs => k a vs _ (S2.trans (same_new ha)) (Same.free S2 ha) upd_same l (st _ _ _ (same_new ha) p)⟩
theorem catP {i : Nat} {l : Addr} {xs : List V} {n : Nat} (hσ : σ[i]? = some (some (.ref l))) (hl : H l = some (.lst xs)) (p0 : P0 H xs) (st0 : Stays P0) (hn : xs.length = n) (h : EvP ta σ H P1 m) (st1 : Stays P1) (hm : n + m ≤ 1000)
    (both : ∀ H xs ys, P0 H xs → P1 H ys → P H (xs ++ ys)) (st : Stays P) (k : ∀ p vs H', Same H H' → H p = none → H' p = some (.lst vs) → vs.length = n + m → P H' vs → Q (.ref p) H') : tOp rCat (tVar i) (tLstS ta) σ H Q := by
  refine ⟨_, hσ, lstP h (by omega) st1 fun p ys H1 S1 np hp ly py => ?_⟩
  refine ⟨_, _, _, _, rfl, rfl, S1 _ _ hl, hp, by rw [hn, ly, sizeLine_eq]; omega, fun q nq => ?_⟩
  exact k q _ _ (S1.trans (same_new nq)) (Same.free S1 nq) upd_same (by rw [List.length_append, hn, ly]) (st _ _ _ (same_new nq) (both _ _ _ (st0 _ _ _ S1 p0) py))
/-- truth values -/
def Bls (bs : List Bool) : Hp → List V → Prop := fun _ vs => vs = bs.map V.bl
theorem bls_stays (bs : List Bool) : Stays (Bls bs) := fun _ _ _ _ h => h
theorem evb_nil : EvP tNil σ H (Bls []) 0 := fun H1 _ Q q => q [] H1 (Same.refl _) rfl rfl
theorem evb_is {K : PySem.W.Frag} {e C Ci : Addr} {v : V} {b : Bool} {bs : List Bool} {i : Nat} (hσ : σ[i]? = some (some (.ref e))) (T : EC K C) (he : ErrAt H e C v) (hk : PySem.W.kitOne K (.ref C) (.ref Ci) = some b) (hr : EvP ta σ H (Bls bs) m) :
    EvP (tCons (tCB (fun xs H Q => ∃ (a C : Addr) (v c : V) (u : Value) (b : Bool), xs = [.ref a, c] ∧ ClsV c u ∧ EC K C ∧ ErrAt H a C v ∧ PySem.W.kitOne K (.ref C) u = some b ∧ Q (.bl b) H) (tCons (tVar i) (tCons (tC (.ref Ci)) tNil))) ta) σ H (Bls (b :: bs)) (m + 1) :=
  fun H1 S Q q => ⟨_, hσ, e, C, v, _, _, b, rfl, .own Ci, T, he.same S, hk, hr H1 S _ fun vs H2 S2 l p => q _ H2 S2 (by rw [List.length_cons, l]) (by rw [p]; rfl)⟩
theorem bls_app {bs cs : List Bool} : ∀ (H : Hp) (xs ys : List V), Bls bs H xs → Bls cs H ys → Bls (bs ++ cs) H (xs ++ ys) := fun _ xs ys h1 h2 => by rw [h1, h2]; exact (List.map_append).symm
/-- errors that keep v, one of each class -/
def Ers (v : V) (Cs : List Addr) : Hp → List V → Prop := fun H vs => Paired (fun x C => ∃ e, x = .ref e ∧ ErrAt H e C v) vs Cs
theorem ers_stays (v : V) (Cs : List Addr) : Stays (Ers v Cs) := fun _ _ _ S h => Paired.mapP h fun _ _ ⟨e, x, y⟩ => ⟨e, x, y.same S⟩
theorem eve_nil {v : V} : EvP tNil σ H (Ers v []) 0 := fun H1 _ Q q => q [] H1 (Same.refl _) rfl .nil
theorem eve_is {C : Addr} {v : V} {Cs : List Addr} {i : Nat} (hσ : σ[i]? = some (some v)) (hr : EvP ta σ H (Ers v Cs) m) : EvP (tCons (tErr C (tCons (tVar i) tNil)) ta) σ H (Ers v (C :: Cs)) (m + 1) :=
  fun H1 S Q q => ⟨_, hσ, v, rfl, fun a H2 na S2 ea => hr H2 (S.trans S2) _ fun vs H3 S3 l p => q _ H3 (S2.trans S3) (by rw [List.length_cons, l]) (.cons ⟨a, rfl, ea.same S3⟩ p)⟩
theorem ers_app {v : V} {Bs Cs : List Addr} : ∀ (H : Hp) (xs ys : List V), Ers v Bs H xs → Ers v Cs H ys → Ers v (Bs ++ Cs) H (xs ++ ys) := fun H xs ys h1 h2 => by
  induction h1 with
  | nil => exact h2
  | cons h _ ih => exact .cons h ih
theorem ers_get {v : V} : ∀ {Cs : List Addr} {H : Hp} {vs : List V} {i : Nat} {x : V}, Ers v Cs H vs → vs[i]? = some x → ∃ e, x = .ref e ∧ ErrAt H e (Cs.getD i 0) v
  | _, _, _, _, _, .nil, h => by simp at h
  | _, _, _, 0, _, .cons h _, e => by obtain rfl := Option.some.inj e; exact h
  | _, _, _, i + 1, _, .cons _ t, e => ers_get (i := i) t e
end
end G
namespace G
open PySem PySem.Spec PyProof.Rows L2
/-- the written part's look at an error's class -/
def ecB (K : PySem.W.Frag) (fI C : Addr) : Bool :=
  decide (PySem.W.findIn K (.ref C) "__setattr__" = some (some (.builtin "object.__setattr__"))) &&
  (decide (PySem.W.subIn K (.ref C) (.type "BaseException") = some true) &&
  (decide (PySem.W.typeIn K (.ref C) = some (.type "type")) &&
  (PySem.W.keepIn K (.ref C) &&
  (PySem.W.hasDictIn K C &&
  (decide (PySem.W.findIn K (.ref C) "__getattribute__" = some (some (.builtin "BaseException.__getattribute__"))) &&
  (decide (PySem.W.findIn K (.ref C) "__getattr__" = some none) &&
  (decide (PySem.W.findIn K (.ref C) "value" = some none) &&
  (decide (PySem.W.findIn K (.ref C) "__class__" = some (some (.builtin "object.__class__"))) &&
  (decide (PySem.W.mroIn K C (.type "object") = some true) &&
  decide (PySem.W.findIn K (.ref C) "__init__" = some (some (.ref fI))))))))))))
theorem ecB_ok {K : PySem.W.Frag} {fI C : Addr} (h : ecB K fI C = true) (c : ∃ nm q N bs bm sn sub ab col dd k0 k1 k2 k3 k5, K.lookup C = some (excClassObj nm q C N bs bm true sn sub ab col dd k0 k1 k2 k3 k5 "ValueError.__new__") ∧ PySem.HandSPX.refsVE bm = true) :
    EC K C ∧ PySem.W.findIn K (.ref C) "__init__" = some (some (.ref fI)) := by
  unfold ecB at h
  simp only [Bool.and_eq_true, decide_eq_true_eq] at h
  obtain ⟨h1, h2, h3, h4, h5, h6, h7, h8, h9, h10, h11⟩ := h
  exact ⟨⟨⟨c, h1, h2, h3, h4⟩, h5, h6, h7, h8, h9, h10⟩, h11⟩
/-- which classes are which -/
def kindsB (K : PySem.W.Frag) (cs : List Addr) (b : Addr) : Bool :=
  ((List.range cs.length).all fun j => (List.range cs.length).all fun i => decide (PySem.W.kitOne K (.ref (cs.getD j 0)) (.ref (cs.getD i 0)) = some (decide (j = i)))) &&
  (cs.all (fun c => decide (PySem.W.kitOne K (.ref b) (.ref c) = some false) && (decide (PySem.W.kitOne K (.ref c) (.ref b) = some true) && decide (PySem.W.kitOne K (.ref c) (.type "ValueError") = some true))) &&
  decide (PySem.W.kitOne K (.ref b) (.type "ValueError") = some true))
structure Kinds (K : PySem.W.Frag) (cs : List Addr) (b : Addr) : Prop where
  two : ∀ j i, j < cs.length → i < cs.length → PySem.W.kitOne K (.ref (cs.getD j 0)) (.ref (cs.getD i 0)) = some (decide (j = i))
  low : ∀ c ∈ cs, PySem.W.kitOne K (.ref b) (.ref c) = some false
  up : ∀ c ∈ cs, PySem.W.kitOne K (.ref c) (.ref b) = some true
  ve : ∀ c ∈ cs, PySem.W.kitOne K (.ref c) (.type "ValueError") = some true
  bve : PySem.W.kitOne K (.ref b) (.type "ValueError") = some true
theorem kindsB_ok {K : PySem.W.Frag} {cs : List Addr} {b : Addr} (h : kindsB K cs b = true) : Kinds K cs b := by
  unfold kindsB at h
  simp only [Bool.and_eq_true, List.all_eq_true, decide_eq_true_eq, List.mem_range] at h
  obtain ⟨h1, h2, h3⟩ := h
  exact ⟨fun j i hj hi => h1 j hj i hi, fun c hc => (h2 c hc).1, fun c hc => (h2 c hc).2.1, fun c hc => (h2 c hc).2.2, h3⟩
end G

namespace My
open PySem PySem.Spec PyProof.Rows L2 G
def topS (i : Nat) : Stmt := PySem.Challenge.pw_seenabout_k00_errors_keep_their_value.main.body.getD i (.Pass ⟨0, 0, 0, 0⟩)
abbrev s__law_pot : Stmt := topS 34
theorem sc__law_pot : FnScope ["_law_script", "_law_k", "_law_cell", "_law_own", "_law_small"] ["_law_script", "_law_k"] (defScope s__law_pot) := ⟨rfl, rfl, rfl, by decide +kernel, rfl, by decide +kernel, by decide +kernel⟩

abbrev s__law_take : Stmt := topS 35
theorem sc__law_take : FnScope ["_law_pot_here", "_law_upto", "_law_digit", "_law_prime", "_law_blend"] ["_law_pot_here", "_law_upto"] (defScope s__law_take) := ⟨rfl, rfl, rfl, by decide +kernel, rfl, by decide +kernel, by decide +kernel⟩

abbrev s__law_of : Stmt := topS 36
theorem sc__law_of : FnScope ["_law_pot_here", "_law_some"] ["_law_pot_here", "_law_some"] (defScope s__law_of) := ⟨rfl, rfl, rfl, by decide +kernel, rfl, by decide +kernel, by decide +kernel⟩

abbrev s__law_places : Stmt := topS 37
theorem sc__law_places : FnScope ["_law_script", "_law_most"] ["_law_script", "_law_most"] (defScope s__law_places) := ⟨rfl, rfl, rfl, by decide +kernel, rfl, by decide +kernel, by decide +kernel⟩

structure Ad where
  init : Addr
  AboutError : Addr
  BadRatio : Addr
  BadText : Addr
  BadPoint : Addr
  BadNumber : Addr
  Off : Addr
  BadChart : Addr
  NoMark : Addr
  BadLine : Addr
  Needed : Addr
  AtMark : Addr
  BadNames : Addr
  BadSides : Addr
  NoCell : Addr
  BadCells : Addr
  BadLand : Addr
  BadRound : Addr
  OverMark : Addr
  OnLine : Addr
  BadLog : Addr
  BadScript : Addr
  NoLap : Addr
  BadAsk : Addr
  Unlike : Addr
  BadOffers : Addr
  BadAsks : Addr
  Lost : Addr
  NothingToUndo : Addr
  NothingToRedo : Addr
  NoTrial : Addr
  BadJournal : Addr
  BadSay : Addr
  _law_pot : Addr
  _law_take : Addr
  _law_of : Addr
  _law_places : Addr
  _law_odd : Addr
  _law_bent : Addr
  _law_all : Addr
  _law_kinds : Addr
  _law_right : Addr
  law : Addr
/-- what the top has written -/
structure Txt (K : PySem.W.Frag) (mg : Str → Option Value) (a : Ad) : Prop where
  n_ValueError : mg "ValueError" = none
  n_abs : mg "abs" = none
  n_all : mg "all" = none
  n_any : mg "any" = none
  n_bool : mg "bool" = none
  n_enumerate : mg "enumerate" = none
  n_int : mg "int" = none
  n_isinstance : mg "isinstance" = none
  n_len : mg "len" = none
  n_list : mg "list" = none
  n_max : mg "max" = none
  n_min : mg "min" = none
  n_range : mg "range" = none
  n_repr : mg "repr" = none
  n_str : mg "str" = none
  n_tuple : mg "tuple" = none
  g__law_pot : mg "_law_pot" = some (.ref a._law_pot)
  k__law_pot : PySem.W.keepIn K (.ref a._law_pot) = true
  g__law_take : mg "_law_take" = some (.ref a._law_take)
  k__law_take : PySem.W.keepIn K (.ref a._law_take) = true
  g__law_of : mg "_law_of" = some (.ref a._law_of)
  k__law_of : PySem.W.keepIn K (.ref a._law_of) = true
  g__law_places : mg "_law_places" = some (.ref a._law_places)
  k__law_places : PySem.W.keepIn K (.ref a._law_places) = true
  g__law_odd : mg "_law_odd" = some (.ref a._law_odd)
  k__law_odd : PySem.W.keepIn K (.ref a._law_odd) = true
  g__law_bent : mg "_law_bent" = some (.ref a._law_bent)
  k__law_bent : PySem.W.keepIn K (.ref a._law_bent) = true
  g__law_all : mg "_law_all" = some (.ref a._law_all)
  k__law_all : PySem.W.keepIn K (.ref a._law_all) = true
  g__law_kinds : mg "_law_kinds" = some (.ref a._law_kinds)
  k__law_kinds : PySem.W.keepIn K (.ref a._law_kinds) = true
  g__law_right : mg "_law_right" = some (.ref a._law_right)
  k__law_right : PySem.W.keepIn K (.ref a._law_right) = true
  g_law : mg "law" = some (.ref a.law)
  k_law : PySem.W.keepIn K (.ref a.law) = true
  g_AboutError : mg "AboutError" = some (.ref a.AboutError)
  c_AboutError : EC K a.AboutError
  i_AboutError : PySem.W.findIn K (.ref a.AboutError) "__init__" = some (some (.ref a.init))
  g_BadRatio : mg "BadRatio" = some (.ref a.BadRatio)
  c_BadRatio : EC K a.BadRatio
  i_BadRatio : PySem.W.findIn K (.ref a.BadRatio) "__init__" = some (some (.ref a.init))
  g_BadText : mg "BadText" = some (.ref a.BadText)
  c_BadText : EC K a.BadText
  i_BadText : PySem.W.findIn K (.ref a.BadText) "__init__" = some (some (.ref a.init))
  g_BadPoint : mg "BadPoint" = some (.ref a.BadPoint)
  c_BadPoint : EC K a.BadPoint
  i_BadPoint : PySem.W.findIn K (.ref a.BadPoint) "__init__" = some (some (.ref a.init))
  g_BadNumber : mg "BadNumber" = some (.ref a.BadNumber)
  c_BadNumber : EC K a.BadNumber
  i_BadNumber : PySem.W.findIn K (.ref a.BadNumber) "__init__" = some (some (.ref a.init))
  g_Off : mg "Off" = some (.ref a.Off)
  c_Off : EC K a.Off
  i_Off : PySem.W.findIn K (.ref a.Off) "__init__" = some (some (.ref a.init))
  g_BadChart : mg "BadChart" = some (.ref a.BadChart)
  c_BadChart : EC K a.BadChart
  i_BadChart : PySem.W.findIn K (.ref a.BadChart) "__init__" = some (some (.ref a.init))
  g_NoMark : mg "NoMark" = some (.ref a.NoMark)
  c_NoMark : EC K a.NoMark
  i_NoMark : PySem.W.findIn K (.ref a.NoMark) "__init__" = some (some (.ref a.init))
  g_BadLine : mg "BadLine" = some (.ref a.BadLine)
  c_BadLine : EC K a.BadLine
  i_BadLine : PySem.W.findIn K (.ref a.BadLine) "__init__" = some (some (.ref a.init))
  g_Needed : mg "Needed" = some (.ref a.Needed)
  c_Needed : EC K a.Needed
  i_Needed : PySem.W.findIn K (.ref a.Needed) "__init__" = some (some (.ref a.init))
  g_AtMark : mg "AtMark" = some (.ref a.AtMark)
  c_AtMark : EC K a.AtMark
  i_AtMark : PySem.W.findIn K (.ref a.AtMark) "__init__" = some (some (.ref a.init))
  g_BadNames : mg "BadNames" = some (.ref a.BadNames)
  c_BadNames : EC K a.BadNames
  i_BadNames : PySem.W.findIn K (.ref a.BadNames) "__init__" = some (some (.ref a.init))
  g_BadSides : mg "BadSides" = some (.ref a.BadSides)
  c_BadSides : EC K a.BadSides
  i_BadSides : PySem.W.findIn K (.ref a.BadSides) "__init__" = some (some (.ref a.init))
  g_NoCell : mg "NoCell" = some (.ref a.NoCell)
  c_NoCell : EC K a.NoCell
  i_NoCell : PySem.W.findIn K (.ref a.NoCell) "__init__" = some (some (.ref a.init))
  g_BadCells : mg "BadCells" = some (.ref a.BadCells)
  c_BadCells : EC K a.BadCells
  i_BadCells : PySem.W.findIn K (.ref a.BadCells) "__init__" = some (some (.ref a.init))
  g_BadLand : mg "BadLand" = some (.ref a.BadLand)
  c_BadLand : EC K a.BadLand
  i_BadLand : PySem.W.findIn K (.ref a.BadLand) "__init__" = some (some (.ref a.init))
  g_BadRound : mg "BadRound" = some (.ref a.BadRound)
  c_BadRound : EC K a.BadRound
  i_BadRound : PySem.W.findIn K (.ref a.BadRound) "__init__" = some (some (.ref a.init))
  g_OverMark : mg "OverMark" = some (.ref a.OverMark)
  c_OverMark : EC K a.OverMark
  i_OverMark : PySem.W.findIn K (.ref a.OverMark) "__init__" = some (some (.ref a.init))
  g_OnLine : mg "OnLine" = some (.ref a.OnLine)
  c_OnLine : EC K a.OnLine
  i_OnLine : PySem.W.findIn K (.ref a.OnLine) "__init__" = some (some (.ref a.init))
  g_BadLog : mg "BadLog" = some (.ref a.BadLog)
  c_BadLog : EC K a.BadLog
  i_BadLog : PySem.W.findIn K (.ref a.BadLog) "__init__" = some (some (.ref a.init))
  g_BadScript : mg "BadScript" = some (.ref a.BadScript)
  c_BadScript : EC K a.BadScript
  i_BadScript : PySem.W.findIn K (.ref a.BadScript) "__init__" = some (some (.ref a.init))
  g_NoLap : mg "NoLap" = some (.ref a.NoLap)
  c_NoLap : EC K a.NoLap
  i_NoLap : PySem.W.findIn K (.ref a.NoLap) "__init__" = some (some (.ref a.init))
  g_BadAsk : mg "BadAsk" = some (.ref a.BadAsk)
  c_BadAsk : EC K a.BadAsk
  i_BadAsk : PySem.W.findIn K (.ref a.BadAsk) "__init__" = some (some (.ref a.init))
  g_Unlike : mg "Unlike" = some (.ref a.Unlike)
  c_Unlike : EC K a.Unlike
  i_Unlike : PySem.W.findIn K (.ref a.Unlike) "__init__" = some (some (.ref a.init))
  g_BadOffers : mg "BadOffers" = some (.ref a.BadOffers)
  c_BadOffers : EC K a.BadOffers
  i_BadOffers : PySem.W.findIn K (.ref a.BadOffers) "__init__" = some (some (.ref a.init))
  g_BadAsks : mg "BadAsks" = some (.ref a.BadAsks)
  c_BadAsks : EC K a.BadAsks
  i_BadAsks : PySem.W.findIn K (.ref a.BadAsks) "__init__" = some (some (.ref a.init))
  g_Lost : mg "Lost" = some (.ref a.Lost)
  c_Lost : EC K a.Lost
  i_Lost : PySem.W.findIn K (.ref a.Lost) "__init__" = some (some (.ref a.init))
  g_NothingToUndo : mg "NothingToUndo" = some (.ref a.NothingToUndo)
  c_NothingToUndo : EC K a.NothingToUndo
  i_NothingToUndo : PySem.W.findIn K (.ref a.NothingToUndo) "__init__" = some (some (.ref a.init))
  g_NothingToRedo : mg "NothingToRedo" = some (.ref a.NothingToRedo)
  c_NothingToRedo : EC K a.NothingToRedo
  i_NothingToRedo : PySem.W.findIn K (.ref a.NothingToRedo) "__init__" = some (some (.ref a.init))
  g_NoTrial : mg "NoTrial" = some (.ref a.NoTrial)
  c_NoTrial : EC K a.NoTrial
  i_NoTrial : PySem.W.findIn K (.ref a.NoTrial) "__init__" = some (some (.ref a.init))
  g_BadJournal : mg "BadJournal" = some (.ref a.BadJournal)
  c_BadJournal : EC K a.BadJournal
  i_BadJournal : PySem.W.findIn K (.ref a.BadJournal) "__init__" = some (some (.ref a.init))
  g_BadSay : mg "BadSay" = some (.ref a.BadSay)
  c_BadSay : EC K a.BadSay
  i_BadSay : PySem.W.findIn K (.ref a.BadSay) "__init__" = some (some (.ref a.init))
  tI : PySem.W.typeIn K (.ref a.init) = some (.type "function")
  ek : EK K
  kinds : kindsB K [a.BadRatio, a.BadText, a.BadPoint, a.BadNumber, a.Off, a.BadChart, a.NoMark, a.BadLine, a.Needed, a.AtMark, a.BadNames, a.BadSides, a.NoCell, a.BadCells, a.BadLand, a.BadRound, a.OverMark, a.OnLine, a.BadLog, a.BadScript, a.NoLap, a.BadAsk, a.Unlike, a.BadOffers, a.BadAsks, a.Lost, a.NothingToUndo, a.NothingToRedo, a.NoTrial, a.BadJournal, a.BadSay] a.AboutError = true

/-! ### the pot: three ints, of which the last counts -/
def PotAt (H : Hp) (p : Addr) (n : Nat) : Prop := ∃ a b c : Int, H p = some (.lst [.int a, .int b, .int c]) ∧ (0 ≤ a ∧ a < 10 ^ 300) ∧ (0 ≤ b ∧ b < 2 ^ 61) ∧ (0 ≤ c ∧ c ≤ (n : Int))
/-- the heap without the pot -/
noncomputable abbrev wo (p : Addr) (H : Hp) : Hp := mask (fun b => b = p) H
theorem wo_ne {p b : Addr} {H : Hp} (h : b ≠ p) : wo p H b = H b := mask_out h
theorem wo_same {p : Addr} {H : Hp} : wo p H p = none := mask_in rfl
theorem wo_le (p : Addr) (H : Hp) : Same (wo p H) H := mask_le _ _
theorem wo_upd {p : Addr} {H : Hp} {o : HO} : wo p (upd H p o) = wo p H := by
  funext b
  by_cases e : b = p
  · rw [e, wo_same, wo_same]
  · rw [wo_ne e, wo_ne e, upd_ne e]
/-- all but the pot stays, the pot is one still -/
structure Go (p : Addr) (n : Nat) (H H' : Hp) : Prop where
  keep : Same (wo p H) (wo p H')
  pot : PotAt H' p n
theorem Go.trans {p : Addr} {m n : Nat} {H H1 H2 : Hp} (a : Go p m H H1) (b : Go p n H1 H2) : Go p n H H2 := ⟨a.keep.trans b.keep, b.pot⟩
theorem Go.at {p : Addr} {n : Nat} {H H' : Hp} (g : Go p n H H') {b : Addr} {o : HO} (h : H b = some o) (hb : b ≠ p) : H' b = some o := wo_le p H' _ _ (g.keep b o (by rw [wo_ne hb]; exact h))

def spPot (K : PySem.W.Frag) : Sp := fun vs H Q _ => ∃ (s : Addr) (ns : List Int) (k : Int), vs = [.ref s, .int k] ∧ SqL K H s (ns.map V.int) ∧ ns.length ≤ 63 ∧ 0 ≤ k ∧ k ≤ 100 ∧
  ∀ p H', H p = none → Same H H' → PotAt H' p 0 → Q (.ref p) H'
def spTake : Sp := fun vs H Q _ => ∃ (p : Addr) (u : Int) (n : Nat), vs = [.ref p, .int u] ∧ PotAt H p n ∧ n ≤ 100000 ∧ 1 ≤ u ∧ u ≤ 10 ^ 8 ∧
  ∀ d H', 0 ≤ d → d < u → Go p (n + 1) H H' → Q (.int d) H'
def spOf : Sp := fun vs H Q _ => ∃ (p s : Addr) (n : Nat) (xs : List V), vs = [.ref p, .ref s] ∧ s ≠ p ∧ PotAt H p n ∧ n ≤ 100000 ∧ H s = some (.lst xs) ∧ xs ≠ [] ∧ xs.length ≤ 10 ^ 6 ∧
  ∀ x H', x ∈ xs → Go p (n + 1) H H' → Q x H'
def spPlaces (K : PySem.W.Frag) : Sp := fun vs H Q _ => ∃ (s : Addr) (ns : List Int) (m : Int), vs = [.ref s, .int m] ∧ SqL K H s (ns.map V.int) ∧ ns.length ≤ 63 ∧ 1 ≤ m ∧ m ≤ 100 ∧
  ∀ (l : Addr) (n : Nat) (H' : Hp), H l = none → Same H H' → (n : Int) ≤ m → H' l = some (.lst (rgV 0 n)) → Q (.ref l) H'
/-- what is kept but for the pot keeps data that lie elsewhere -/
theorem Go.mask {p : Addr} {n : Nat} {H H' : Hp} {N : Addr → Prop} (g : Go p n H H') (hp : N p) : Same (mask N H) (mask N H') := fun b o h => by
  obtain ⟨nb, e⟩ := mask_some h
  have hb : b ≠ p := fun z => nb (by rw [z]; exact hp)
  rw [mask_out nb]
  exact g.at e hb
theorem Go.is {p : Addr} {n : Nat} {H H' : Hp} {N : Addr → Prop} {G : PyData → Prop} {v : V} (g : Go p n H H') (hp : N p) (x : Is N H G v) : Is N H' G v := let ⟨d, a, y⟩ := x; ⟨d, a.same (g.mask hp), y⟩
theorem Go.of {p : Addr} {n : Nat} {H H1 H' : Hp} (S : Same H H1) (g : Go p n H1 H') : Go p n H H' := ⟨(mask_mono S).trans g.keep, g.pot⟩
theorem PotAt.same {p : Addr} {n : Nat} {H H' : Hp} (S : Same H H') (x : PotAt H p n) : PotAt H' p n := let ⟨a, b, c, h, r⟩ := x; ⟨a, b, c, S _ _ h, r⟩
theorem PotAt.mono {p : Addr} {m n : Nat} {H : Hp} (x : PotAt H p m) (h : m ≤ n) : PotAt H p n := let ⟨a, b, c, e, r1, r2, r3, r4⟩ := x; ⟨a, b, c, e, r1, r2, r3, by omega⟩
theorem PotAt.has {p : Addr} {n : Nat} {H : Hp} (x : PotAt H p n) : H p ≠ none := by obtain ⟨a, b, c, e, _⟩ := x; rw [e]; simp
theorem Go.mono {p : Addr} {m n : Nat} {H H' : Hp} (g : Go p m H H') (h : m ≤ n) : Go p n H H' := ⟨g.keep, g.pot.mono h⟩

/-- any of the odd values: new data -/
def spOdd : Sp := fun vs H Q _ => ∃ (p : Addr) (n : Nat), vs = [.ref p] ∧ PotAt H p n ∧ n ≤ 100000 ∧ ∀ v H', (∀ N, Tr N H → Is N H' (Gd 60 4) v) → Go p (n + 1) H H' → Q v H'
/-! ### values that are bent: tuples of 'a' and small ints -/
def Leaf (d : PyData) : Prop := d = .str "a" ∨ ∃ i : Int, d = .int i ∧ -3 ≤ i ∧ i ≤ 3
def Bt : Nat → PyData → Prop
  | 0, d => Leaf d
  | k + 1, d => Leaf d ∨ ∃ ds, d = .tuple ds ∧ 1 ≤ ds.length ∧ ds.length ≤ 3 ∧ ∀ x ∈ ds, Bt k x
def wB : Nat → Nat
  | 0 => 2
  | k + 1 => 3 * (wB k + 1)
def rB : Nat → Nat
  | 0 => 100
  | k + 1 => 7 * (rB k + wB k + 1)
def spBent : Nat → Sp
  | 0 => fun _ _ _ _ => False
  | k + 1 => fun vs H Q _ => ∃ (p : Addr) (v : V) (d : PyData) (n : Nat), vs = [.ref p, v] ∧ PotAt H p n ∧ k ≤ 50 ∧ n + 2 * k + 10 ≤ 100000 ∧ Da (wo p H) v d ∧ Bt k d ∧
    ∀ u m H', Is (fun b => b = p) H' (Gd (rB k) (4 + k)) u → Go p m H H' → m ≤ n + 2 * k + 2 → Q u H'

section
variable {P : Program} {w : World} {K : PySem.W.Frag} {mg : Str → Option Value} {base : Heap} {a : Ad}

theorem pow300 : ((10 : Int) ^ (60 : Int).toNat) ^ (5 : Int).toNat = 10 ^ 300 := by
  show ((10 : Int) ^ 60) ^ 5 = 10 ^ 300
  rw [← Int.pow_mul]
theorem cpow1 : CPowW 10 60 := ⟨by decide, by decide, by decide +kernel⟩
theorem cpow2 : CPowW ((10 : Int) ^ (60 : Int).toNat) 5 := ⟨by decide +kernel, by decide, by decide +kernel⟩
theorem cpow3 : CPowW 10 18 := ⟨by decide, by decide, by decide +kernel⟩
theorem mod300 (x : Int) : 0 ≤ x.fmod (10 ^ 300) ∧ x.fmod (10 ^ 300) < 10 ^ 300 := by
  have h : (0 : Int) < 10 ^ 300 := by decide +kernel
  exact ⟨Int.fmod_nonneg_of_pos _ h, Int.fmod_lt_of_pos _ h⟩
theorem cpow_of {i : Int} (h0 : 2 ≤ i) (h : i < 2 ^ 100) : CPowW i 3 := by
  refine ⟨h0, by decide, ?_⟩
  have h1 : i.natAbs < 2 ^ 100 := by omega
  have h2 := PySem.Flt.log2_lt_of (by decide) h1
  have h3 : Builtin.Int.intBits i ≤ i.natAbs.log2 + 1 := by
    unfold Builtin.Int.intBits
    split <;> omega
  omega
theorem b01 (b : Bool) : -(2 ^ 64) < (if b = true then (1 : Int) else 0) ∧ (if b = true then (1 : Int) else 0) < 2 ^ 64 := by cases b <;> decide
theorem own01 {x m : Int} (h : 0 ≤ x ∧ x < m) (b : Bool) : 0 ≤ x * (if b = true then (1 : Int) else 0) ∧ x * (if b = true then (1 : Int) else 0) < m := by
  cases b
  · simp; omega
  · simp; omega
theorem fm {u : Int} (x : Int) (h : 0 < u) : 0 ≤ x.fmod u ∧ x.fmod u < u := ⟨Int.fmod_nonneg_of_pos _ h, Int.fmod_lt_of_pos _ h⟩
theorem ok__law_pot {fd : FuncData} (F : Fun K "_law_pot" "_law_pot" s__law_pot a._law_pot fd) (T : Txt K mg a) :
    Fn P w K mg base CX0 1 a._law_pot fd ["_law_script", "_law_k"] (spPot K) := by
  refine ok F sc__law_pot (fun vs H Q E h => ?len) (fun cdv A outer s H vs Q E hq hr h => ⟨_,
      (Evl.pss_cut (ps_set (i := 2) sc__law_pot.nd rfl (Or.inl rfl) (pe_ifExp (pt_cmpR op_lt (pv 1) (pe_callB call_len_seq (by rfl) T.n_len (by decide +kernel) (pa_cons (pv 0) pa_nil)) (nomark _)) (pe_ix ix_list (pv 0) (pv 1) (fun _ _ => rfl)) (pe_op op_add (pe_op op_mul pe_int (pv 1)) pe_int)))
      (pss_cons (ps_set (i := 3) sc__law_pot.nd rfl (Or.inl rfl) (pe_op op_mul (pe_op op_modN (pe_callTy call_int1 (by rfl) T.n_int (by decide +kernel) (pa_cons (pe_callB call_abs (by rfl) T.n_abs (by decide +kernel) (pa_cons (pv 2) pa_nil)) pa_nil)) (pe_op op_powW (pe_op op_powW pe_int pe_int) pe_int)) (pe_callTy call_int1 (by rfl) T.n_int (by decide +kernel) (pa_cons (pe_cmpR op_ge (pe_callB call_abs (by rfl) T.n_abs (by decide +kernel) (pa_cons (pv 2) pa_nil)) (pe_op op_powW pe_int pe_int) (nomark _)) pa_nil))))
      (pss_cons (ps_set (i := 4) sc__law_pot.nd rfl (Or.inl rfl) (pe_op op_modN (pe_callTy call_int1 (by rfl) T.n_int (by decide +kernel) (pa_cons (pv 2) pa_nil)) pe_int))
      (pss_one (ps_ret (pe_lstS (pa_cons (pv 3) (pa_cons (pe_op op_modN (pe_callTy call_int1 (by rfl) T.n_int (by decide +kernel) (pa_cons (pe_op op_add (pe_op op_add (pe_op op_mul (pv 4) pe_int) (pe_op op_mul (pe_op op_mul pe_int (pv 1)) (pv 1))) pe_int) pa_nil)) pe_int) (pa_cons pe_int pa_nil))))))))), ?body⟩)
  case len => obtain ⟨s, ns, k, rfl, _⟩ := h; rfl
  case body =>
    obtain ⟨s, ns, k, rfl, hs, hl, hk0, hk1, q⟩ := h
    refine ⟨fun σ' H' => ∃ c : Int, σ' = [some (.ref s), some (.int k), some (.int c), none, none] ∧ H' = H, ?first, ?rest⟩
    case first =>
      refine ⟨_, rfl, _, rfl, _, _, rfl, .inl hs, _, _, rfl, rfl, _, rfl, ite2 (fun c => ?_) (fun c => ?_)⟩
      · have hk : k.toNat < ns.length := by
          have := of_decide_eq_true c
          rw [List.length_map] at this
          omega
        refine ⟨_, rfl, _, rfl, _, _, _, _, rfl, rfl, hs, at_of (j := k.toNat) (v := .int ns[k.toNat]) (by omega) (by rw [List.getElem?_map, List.getElem?_eq_getElem hk]; rfl), ?_⟩
        exact ⟨_, rfl, rfl⟩
      · refine ⟨_, rfl, _, _, rfl, rfl, .inl ⟨by decide, by decide⟩, _, _, rfl, rfl, ?_⟩
        exact ⟨_, rfl, rfl⟩
    case rest =>
      rintro σ' H' ⟨c, rfl, rfl⟩
      have m1 : 0 ≤ c.fmod 2305843009213693951 ∧ c.fmod 2305843009213693951 < 2305843009213693951 := ⟨Int.fmod_nonneg_of_pos _ (by decide), Int.fmod_lt_of_pos _ (by decide)⟩
      refine ⟨_, rfl, _, rfl, .inl ⟨_, rfl, _, _, rfl, rfl, cpow1, _, _, rfl, rfl, cpow2, _, _, rfl, rfl, (by rw [pow300]; show (10 ^ 300 : Int) ≠ 0; decide +kernel), _, rfl, _, rfl, _, _, rfl, rfl, cpow3, _, _, rfl, rfl, .inr ⟨_, rfl, _, _, rfl, rfl, .inr (b01 _), ?_⟩⟩⟩
      refine ⟨_, rfl, .inl ⟨_, rfl, _, _, rfl, rfl, (by show (_ : Int) ≠ 0; decide), ?_⟩⟩
      refine ⟨_, rfl, _, rfl, _, _, rfl, rfl, .inl ⟨by omega, by omega⟩, _, rfl, _, _, rfl, rfl, .inl ⟨by decide, by decide⟩, _, rfl, _, _, rfl, rfl, .inr ⟨by omega, by omega⟩, _, _, rfl, rfl, _, _, rfl, rfl, .inl ⟨_, rfl, _, _, rfl, rfl, (by show (_ : Int) ≠ 0; decide), (by show 3 ≤ sizeLine; decide), fun p h1 s1 => ?_⟩⟩
      refine q p _ h1 (fun b o z => by rw [upd_ne (ne_of_none z h1)]; exact z) ⟨_, _, _, upd_same, ?_, ?_, by decide⟩
      · rw [pow300]
        exact own01 (mod300 _) _
      · exact ⟨Int.fmod_nonneg_of_pos _ (by decide), Int.lt_trans (Int.fmod_lt_of_pos _ (by decide)) (by decide)⟩
theorem ok__law_take {fd : FuncData} (F : Fun K "_law_take" "_law_take" s__law_take a._law_take fd) (T : Txt K mg a) :
    Fn P w K mg base CX0 1 a._law_take fd ["_law_pot_here", "_law_upto"] spTake := by
  refine ok F sc__law_take (fun vs H Q E h => ?len) (fun cdv A outer s H vs Q E hq hr h => ⟨_,
      (pss_cons (ps_if (pt_cmpR op_gt (pe_ix ix_list (pv 0) pe_int (fun _ _ => rfl)) pe_int (nomark _)) (pss_cons (ps_set (i := 2) sc__law_take.nd rfl (Or.inl rfl) (pe_op op_modN (pe_callTy call_int1 (by rfl) T.n_int (by decide +kernel) (pa_cons (pe_ix ix_list (pv 0) pe_int (fun _ _ => rfl)) pa_nil)) (pv 1)))
      (pss_cons (ps_asg (pe_op op_fdivN (pe_ix ix_list (pv 0) pe_int (fun _ _ => rfl)) (pv 1)) (pg_sub (pv 0) pe_int set_list))
      (pss_one (ps_ret (pv 2))))) pss_nil)
      (pss_cons (ps_asg (pe_op op_add (pe_ix ix_list (pv 0) pe_int (fun _ _ => rfl)) pe_int) (pg_sub (pv 0) pe_int set_list))
      (pss_cons (ps_set (i := 3) sc__law_take.nd rfl (Or.inl rfl) (pe_ix ix_list (pe_lstS (pa_cons pe_int (pa_cons pe_int (pa_cons pe_int (pa_cons pe_int (pa_cons pe_int pa_nil)))))) (pe_op op_modN (pe_callTy call_int1 (by rfl) T.n_int (by decide +kernel) (pa_cons (pe_ix ix_list (pv 0) pe_int (fun _ _ => rfl)) pa_nil)) pe_int) (fun _ _ => rfl)))
      (pss_cons (ps_set (i := 4) sc__law_take.nd rfl (Or.inl rfl) (pe_op op_modN (pe_callTy call_int1 (by rfl) T.n_int (by decide +kernel) (pa_cons (pe_op op_powW (pe_callTy call_int1 (by rfl) T.n_int (by decide +kernel) (pa_cons (pe_op op_add (pe_op op_add (pe_ix ix_list (pv 0) pe_int (fun _ _ => rfl)) (pe_op op_mul (pe_op op_mul pe_int (pe_ix ix_list (pv 0) pe_int (fun _ _ => rfl))) (pe_ix ix_list (pv 0) pe_int (fun _ _ => rfl)))) pe_int) pa_nil)) pe_int) pa_nil)) (pv 3)))
      (pss_one (ps_ret (pe_op op_modN (pe_callTy call_int1 (by rfl) T.n_int (by decide +kernel) (pa_cons (pe_op op_fdivN (pe_op op_mul (pv 4) (pe_op op_add (pe_op op_modN (pe_callTy call_int1 (by rfl) T.n_int (by decide +kernel) (pa_cons (pv 4) pa_nil)) pe_int) (pe_op op_mul pe_int (pe_ix ix_list (pv 0) pe_int (fun _ _ => rfl))))) pe_int) pa_nil)) (pv 1)))))))), ?body⟩)
  case len => obtain ⟨p, u, n, rfl, _⟩ := h; rfl
  case body =>
    obtain ⟨p, u, n, rfl, ⟨x, y, z, hp, ⟨hx0, hx1⟩, ⟨hy0, hy1⟩, hz0, hz1⟩, hn, hu0, hu1, q⟩ := h
    refine ⟨_, rfl, p, _, _, _, rfl, rfl, SqL.of hp, rfl, _, _, rfl, rfl, _, rfl, ite2 (fun c => ?_) (fun c => ?_)⟩
    · refine ⟨_, rfl, _, _, _, _, rfl, rfl, SqL.of hp, rfl, .inl ⟨_, rfl, _, rfl, _, _, rfl, rfl, (by omega), _, rfl, _, _, _, _, rfl, rfl, SqL.of hp, rfl, _, rfl, _, _, rfl, rfl, ⟨by omega, by omega⟩, _, rfl, _, _, _, _, rfl, rfl, hp, rfl, _, rfl, ?_⟩⟩
      refine q _ _ (Int.fmod_nonneg_of_pos _ (by omega)) (Int.fmod_lt_of_pos _ (by omega)) ⟨by rw [wo_upd]; exact fun _ _ z => z, _, _, _, upd_same, ?_, ⟨hy0, hy1⟩, hz0, by omega⟩
      have e : x.fdiv u = x / u := Int.fdiv_eq_ediv_of_nonneg _ (by omega)
      show 0 ≤ x.fdiv u ∧ x.fdiv u < 10 ^ 300
      rw [e]
      exact ⟨Int.ediv_nonneg hx0 (by omega), Int.lt_of_le_of_lt (Int.ediv_le_self _ hx0) hx1⟩
    · refine ⟨_, rfl, _, _, _, _, rfl, rfl, SqL.of hp, rfl, _, _, rfl, rfl, _, rfl, _, _, _, _, rfl, rfl, hp, rfl, (by show 5 ≤ sizeLine; decide), fun l hl sl => ?_⟩
      have hp1 : upd H p (.lst [V.int x, V.int y, V.int (z + 1)]) p = some (.lst [V.int x, V.int y, V.int (z + 1)]) := upd_same
      replace hl : upd H p (.lst [V.int x, V.int y, V.int (z + 1)]) l = none := hl
      have npl : p ≠ l := ne_of_none hp1 hl
      have hp2 : upd (upd H p (.lst [V.int x, V.int y, V.int (z + 1)])) l (.lst [V.int 2147483647, V.int 2147483629, V.int 2147483587, V.int 2147483579, V.int 2147483563]) p = some (.lst [V.int x, V.int y, V.int (z + 1)]) := by rw [upd_ne npl]; exact hp1
      have hl2 : upd (upd H p (.lst [V.int x, V.int y, V.int (z + 1)])) l (.lst [V.int 2147483647, V.int 2147483629, V.int 2147483587, V.int 2147483579, V.int 2147483563]) l = some (.lst [V.int 2147483647, V.int 2147483629, V.int 2147483587, V.int 2147483579, V.int 2147483563]) := upd_same
      have keep : Same (wo p H) (wo p (upd (upd H p (.lst [V.int x, V.int y, V.int (z + 1)])) l (.lst [V.int 2147483647, V.int 2147483629, V.int 2147483587, V.int 2147483579, V.int 2147483563]))) := by
        intro b o e
        by_cases hb : b = p
        · rw [hb, wo_same] at e; cases e
        · rw [wo_ne hb] at e ⊢
          have : b ≠ l := by
            rintro rfl
            rw [upd_ne hb, e] at hl
            cases hl
          rw [upd_ne this, upd_ne hb]; exact e
      -- which prime
      obtain ⟨j, hj, ej⟩ : ∃ j : Nat, j < 5 ∧ (z + 1).fmod 5 = (j : Int) := ⟨((z + 1).fmod 5).toNat, by have := Int.fmod_lt_of_pos (z + 1) (show (0 : Int) < 5 by decide); have := Int.fmod_nonneg_of_pos (z + 1) (show (0 : Int) < 5 by decide); omega, by have := Int.fmod_nonneg_of_pos (z + 1) (show (0 : Int) < 5 by decide); omega⟩
      obtain ⟨pr, hpr, at5⟩ : ∃ pr : Int, (2147483563 ≤ pr ∧ pr ≤ 2147483647) ∧ [V.int 2147483647, V.int 2147483629, V.int 2147483587, V.int 2147483579, V.int 2147483563][j]? = some (.int pr) := by
        match j, hj with
        | 0, _ => exact ⟨_, ⟨by decide, by decide⟩, rfl⟩
        | 1, _ => exact ⟨_, ⟨by decide, by decide⟩, rfl⟩
        | 2, _ => exact ⟨_, ⟨by decide, by decide⟩, rfl⟩
        | 3, _ => exact ⟨_, ⟨by decide, by decide⟩, rfl⟩
        | 4, _ => exact ⟨_, ⟨by decide, by decide⟩, rfl⟩
      have zz : 0 ≤ (z + 1) * (z + 1) ∧ (z + 1) * (z + 1) ≤ 100001 * 100001 := ⟨Int.mul_nonneg (by omega) (by omega), Int.mul_le_mul (by omega) (by omega) (by omega) (by omega)⟩
      have e9 : 91003 * (z + 1) * (z + 1) = 91003 * ((z + 1) * (z + 1)) := Int.mul_assoc _ _ _
      refine ⟨_, rfl, _, _, _, _, rfl, rfl, SqL.of hp2, rfl, .inl ⟨_, rfl, _, _, rfl, rfl, (by show (_ : Int) ≠ 0; decide), _, _, _, _, rfl, rfl, SqL.of hl2, at_of ej at5, ?_⟩⟩
      refine ⟨_, rfl, _, _, _, _, rfl, rfl, SqL.of hp2, rfl, _, rfl, _, _, _, _, rfl, rfl, SqL.of hp2, rfl, _, _, rfl, rfl, .inl ⟨by decide, by decide⟩, _, rfl, _, _, _, _, rfl, rfl, SqL.of hp2, rfl, _, _, rfl, rfl, .inl ⟨by omega, by omega⟩, _, _, rfl, rfl, _, _, rfl, rfl, .inl ⟨_, rfl, _, _, rfl, rfl, ?pow, .inl ⟨_, rfl, _, rfl, _, _, rfl, rfl, (by omega), ?_⟩⟩⟩
      case pow => exact cpow_of (by rw [e9]; omega) (by rw [e9]; omega)
      generalize (y + 91003 * (z + 1) * (z + 1) + 61) ^ (3 : Int).toNat = bb
      have mb : 0 ≤ bb.fmod pr ∧ bb.fmod pr < pr := ⟨Int.fmod_nonneg_of_pos _ (by omega), Int.fmod_lt_of_pos _ (by omega)⟩
      refine ⟨_, rfl, _, rfl, .inl ⟨_, rfl, _, _, rfl, rfl, (by show (_ : Int) ≠ 0; decide), _, rfl, _, _, _, _, rfl, rfl, SqL.of hp2, rfl, _, _, rfl, rfl, .inl ⟨by decide, by decide⟩, _, _, rfl, rfl, _, _, rfl, rfl, .inl ⟨by omega, by omega⟩, _, _, rfl, rfl, ⟨by decide, by decide⟩, .inl ⟨_, rfl, _, rfl, _, _, rfl, rfl, (by omega), ?_⟩⟩⟩
      exact q _ _ (Int.fmod_nonneg_of_pos _ (by omega)) (Int.fmod_lt_of_pos _ (by omega)) ⟨keep, _, _, _, hp2, ⟨hx0, hx1⟩, ⟨hy0, hy1⟩, by omega, by omega⟩
theorem ok__law_of {fd : FuncData} (F : Fun K "_law_of" "_law_of" s__law_of a._law_of fd) (T : Txt K mg a)
    {fd__law_take : FuncData} (G__law_take : Fn P w K mg base CX0 1 a._law_take fd__law_take ["_law_pot_here", "_law_upto"] spTake) (b__law_take : Binds K fd__law_take ["_law_pot_here", "_law_upto"] []) :
    Fn P w K mg base CX0 2 a._law_of fd ["_law_pot_here", "_law_some"] spOf := by
  refine ok F sc__law_of (fun vs H Q E h => ?len) (fun cdv A outer s H vs Q E hq hr h => ⟨_,
      (pss_one (ps_ret (pe_ix ix_list (pv 1) (pe_fn G__law_take hq (hr.mono (by omega)) (by rfl) T.g__law_take T.k__law_take b__law_take .nil pass0 (pa_cons (pv 0) (pa_cons (pe_callB call_len_seq (by rfl) T.n_len (by decide +kernel) (pa_cons (pv 1) pa_nil)) pa_nil))) (fun _ _ => rfl)))), ?body⟩)
  case len => obtain ⟨p, s, n, xs, rfl, _⟩ := h; rfl
  case body =>
    obtain ⟨p, s, n, xs, rfl, hsp, pot, hn, hs, hne, hz, q⟩ := h
    have h1 : 1 ≤ xs.length := List.length_pos_iff.mpr hne
    refine ⟨_, rfl, _, rfl, _, rfl, _, _, rfl, .inl (SqL.of hs), ?_⟩
    refine ⟨p, _, n, rfl, pot, hn, by omega, by omega, fun d H1 d0 d1 g => ?_⟩
    have hd : d.toNat < xs.length := by omega
    refine ⟨_, _, _, _, rfl, rfl, SqL.of (g.at hs hsp), at_of (j := d.toNat) (by omega) (List.getElem?_eq_getElem hd), ?_⟩
    exact q _ _ (List.getElem_mem hd) g
theorem ok__law_places {fd : FuncData} (F : Fun K "_law_places" "_law_places" s__law_places a._law_places fd) (T : Txt K mg a) :
    Fn P w K mg base CX0 1 a._law_places fd ["_law_script", "_law_most"] (spPlaces K) := by
  refine ok F sc__law_places (fun vs H Q E h => ?len) (fun cdv A outer s H vs Q E hq hr h => ⟨_,
      (pss_one (ps_ret (pe_listRg rfl (by rfl) T.n_list (prg_1 (by rfl) T.n_range (pe_callB (call_max2 rfl) (by rfl) T.n_max (by decide +kernel) (pa_cons pe_int (pa_cons (pe_callB (call_min2 rfl) (by rfl) T.n_min (by decide +kernel) (pa_cons (pv 1) (pa_cons (pe_callB call_len_seq (by rfl) T.n_len (by decide +kernel) (pa_cons (pv 0) pa_nil)) pa_nil))) pa_nil))))))), ?body⟩)
  case len => obtain ⟨s, ns, m, rfl, _⟩ := h; rfl
  case body =>
    obtain ⟨s, ns, m, rfl, hs, hl, hm0, hm1, q⟩ := h
    refine ⟨_, rfl, _, rfl, _, _, rfl, .inl hs, _, _, rfl, _, _, rfl, _, rfl, RgOk.of_le (by decide) (by rw [List.length_map]; split <;> split <;> omega) (by decide) (by split <;> split <;> omega), fun l h1 => ?_⟩
    obtain ⟨k, ek, hk⟩ : ∃ k : Nat, (if (if ((ns.map V.int).length : Int) < m then ((ns.map V.int).length : Int) else m) > 1 then (if ((ns.map V.int).length : Int) < m then ((ns.map V.int).length : Int) else m) else 1) = (k : Int) ∧ (k : Int) ≤ m := by
      refine ⟨_, (Int.toNat_of_nonneg ?_).symm, ?_⟩
      · split <;> split <;> omega
      · rw [Int.toNat_of_nonneg (by split <;> split <;> omega)]
        split <;> split <;> omega
    refine q l k _ h1 (fun b o z => by rw [upd_ne (ne_of_none z h1)]; exact z) hk (Eq.trans upd_same ?_)
    rw [← ek]
end
end My

namespace My
open PySem PySem.Spec PyProof.Rows L2 G
abbrev s__law_odd : Stmt := topS 38
theorem sc__law_odd : FnScope ["_law_pot_here", "_law_some"] ["_law_pot_here"] (defScope s__law_odd) := ⟨rfl, rfl, rfl, by decide +kernel, rfl, by decide +kernel, by decide +kernel⟩

abbrev s__law_bent : Stmt := topS 39
theorem sc__law_bent : FnScope ["_law_pot_here", "_law_value", "_law_at", "_law_some"] ["_law_pot_here", "_law_value"] (defScope s__law_bent) := ⟨rfl, rfl, rfl, by decide +kernel, rfl, by decide +kernel, by decide +kernel⟩

theorem gd_dict1 {n k N : Nat} {x : Str} {d : PyData} (g : Gd n k d) (hx : gdB 8 0 (.str x) = true) (hN : 8 + n + 2 ≤ N) : Gd N (k + 1) (.dict [(.str x, d)]) := by
  have h := gdB_ok hx
  refine ⟨?_, ?_, ?_, ?_⟩
  · simp only [PyData.leavesShort, PyData.leavesShortKv, Bool.and_true, Bool.and_eq_true]; exact ⟨h.short, g.short⟩
  · simp only [PyData.showable, PyData.showableKv, Bool.and_true, Bool.and_eq_true]; exact ⟨trivial, g.show_⟩
  · simp only [PyData.depth, PyData.depthKv]; have := g.depth; omega
  · simp only [PyData.weight, PyData.weightKv]; have := g.weight; have := h.weight; simp only [PyData.weight] at this; omega
local macro_rules | `(tactic| walk_at "gd") => `(tactic| exact gdB_ok (by decide +kernel))
local macro_rules | `(tactic| walk_at "ev") => `(tactic| repeat (first
  | exact eva_nil
  | apply eva_cons
  | exact evg_int (gdB_ok (by decide +kernel))
  | exact evg_str (gdB_ok (by decide +kernel))
  | exact evg_bl (gdB_ok (by decide +kernel))
  | exact evg_non (gdB_ok (by decide +kernel))
  | exact evg_neg (gdB_ok (by decide +kernel))
  | exact evg_pow ⟨by decide, by decide, by decide +kernel⟩ (gdB_ok (by decide +kernel))
  | exact evg_dnew (by assumption) (gdB_ok (by decide +kernel))
  | (apply evg_tup (G' := Gd 8 3); (case h => walk_at "ev"); (case t => assumption); (case hm => decide); (case g => exact fun ds l h => gd_tup h (Nat.le_of_eq l) (by decide)))
  | (apply evg_tup (G' := Gd 3 2); (case h => walk_at "ev"); (case t => assumption); (case hm => decide); (case g => exact fun ds l h => gd_tup h (Nat.le_of_eq l) (by decide)))
  | (apply evg_lst (G' := Gd 8 3); (case h => walk_at "ev"); (case t => assumption); (case hm => decide); (case g => exact fun ds l h => gd_lst h (Nat.le_of_eq l) (by decide)))
  | exact evg_dict1 (G' := Gd 8 3) (by assumption) (fun q H1 S => evg_int (gdB_ok (by decide +kernel))) (fun d g => gd_dict1 g (by decide +kernel) (by decide))))

section
variable {P : Program} {w : World} {K : PySem.W.Frag} {mg : Str → Option Value} {base : Heap} {a : Ad}
theorem ok__law_odd {fd : FuncData} (F : Fun K "_law_odd" "_law_odd" s__law_odd a._law_odd fd) (T : Txt K mg a)
    {fd__law_of : FuncData} (G__law_of : Fn P w K mg base CX0 2 a._law_of fd__law_of ["_law_pot_here", "_law_some"] spOf) (b__law_of : Binds K fd__law_of ["_law_pot_here", "_law_some"] []) :
    Fn P w K mg base CX0 3 a._law_odd fd ["_law_pot_here"] spOdd := by
  refine ok F sc__law_odd (fun vs H Q E h => ?len) (fun cdv A outer s H vs Q E hq hr h => ⟨_,
      (pss_cons (ps_set (i := 1) sc__law_odd.nd rfl (Or.inl rfl) (pe_lstS (pa_cons pe_non (pa_cons pe_bl (pa_cons pe_bl (pa_cons pe_int (pa_cons pe_int (pa_cons (pe_un un_neg pe_int) (pa_cons pe_int (pa_cons pe_int (pa_cons pe_str (pa_cons pe_str (pa_cons pe_str (pa_cons pe_str (pa_cons (pe_tup pa_nil) (pa_cons (pe_lstS pa_nil) (pa_cons pe_dnewK (pa_cons (pe_tup (pa_cons pe_int pa_nil)) (pa_cons (pe_tup (pa_cons (pe_tup pa_nil) pa_nil)) (pa_cons (pe_lstS (pa_cons pe_int pa_nil)) (pa_cons (pe_tup (pa_cons pe_str (pa_cons pe_int pa_nil))) (pa_cons (pe_disp (pps_cons pe_str pe_int pps_nil) (by rfl) (by rfl) (fun z => by cases z) (by decide)) pa_nil))))))))))))))))))))))
      (pss_one (ps_ret (pe_fn G__law_of hq (hr.mono (by omega)) (by rfl) T.g__law_of T.k__law_of b__law_of .nil pass0 (pa_cons (pv 0) (pa_cons (pe_op op_cat (pv 1) (pe_lstS (pa_cons (pe_tup (pa_cons (pe_tup (pa_cons pe_str pa_nil)) pa_nil)) (pa_cons (pe_tup (pa_cons pe_str (pa_cons pe_str pa_nil))) (pa_cons (pe_tup (pa_cons pe_int (pa_cons pe_int pa_nil))) (pa_cons (pe_tup (pa_cons (pe_tup (pa_cons pe_int (pa_cons pe_int pa_nil))) pa_nil)) (pa_cons (pe_tup (pa_cons pe_non pa_nil)) (pa_cons (pe_op op_powW pe_int pe_int) (pa_cons pe_str (pa_cons (pe_tup (pa_cons pe_bl pa_nil)) (pa_cons (pe_tup (pa_cons pe_int (pa_cons (pe_un un_neg pe_int) (pa_cons pe_int pa_nil)))) pa_nil))))))))))) pa_nil)))))), ?body⟩)
  case len => obtain ⟨p, n, rfl, _⟩ := h; rfl
  case body =>
    obtain ⟨p, n, rfl, pot, hn, q⟩ := h
    have t : Tr (fun b => H b ≠ none) H := fun _ h => h
    refine s_set (eva_list (G := Gd 60 4) (m := 20) t ?ev1 (by decide) fun l xs H1 S1 nl hl sl ll hx => ?_)
    case ev1 => walk_at "ev"
    have t1 : Tr (fun b => H b ≠ none) H1 := t.same S1
    refine ⟨_, rfl, _, rfl, ?_⟩
    refine eva_list (G := Gd 60 4) (m := 9) t1 ?ev2 (by decide) fun l2 ys H2 S2 nl2 hl2 sl2 ll2 hy => ?_
    case ev2 => walk_at "ev"
    refine ⟨_, _, _, _, rfl, rfl, S2 _ _ hl, hl2, by rw [ll, ll2]; decide, fun l3 n3 => ?_⟩
    have pot3 : PotAt (upd H2 l3 (.lst (xs ++ ys))) p n := ((pot.same S1).same S2).same (same_new n3)
    have n3p : l3 ≠ p := fun e => by
      rw [e] at n3
      exact ((pot.same S1).same S2).has n3
    refine ⟨p, l3, n, xs ++ ys, rfl, n3p, pot3, hn, upd_same, (by intro e; have z := congrArg List.length e; rw [List.length_append, ll, ll2] at z; exact absurd z (by decide)), by rw [List.length_append, ll, ll2]; decide, fun x H4 hm g => ?_⟩
    refine q x H4 (fun N tN => ?_) (Go.of ((S1.trans S2).trans (same_new n3)) g)
    have hx3 : Is (fun b => H b ≠ none) (upd H2 l3 (.lst (xs ++ ys))) (Gd 60 4) x := by
      rcases List.mem_append.mp hm with z | z
      · exact ((hx x z).same S2).same (same_new n3)
      · exact (hy x z).same (same_new n3)
    exact (g.is pot.has hx3).less tN
end
end My

namespace My
open PySem PySem.Spec PyProof.Rows L2 G
local macro_rules | `(tactic| walk_at "gd") => `(tactic| exact gdB_ok (by decide +kernel))
local macro_rules | `(tactic| walk_at "ev") => `(tactic| repeat (first
  | exact eva_nil
  | apply eva_cons
  | exact evg_int (gdB_ok (by decide +kernel))
  | exact evg_str (gdB_ok (by decide +kernel))
  | exact evg_bl (gdB_ok (by decide +kernel))
  | exact evg_non (gdB_ok (by decide +kernel))
  | exact evg_neg (gdB_ok (by decide +kernel))
  | exact evg_pow ⟨by decide, by decide, by decide +kernel⟩ (gdB_ok (by decide +kernel))
  | exact evg_dnew (by assumption) (gdB_ok (by decide +kernel))
  | (apply evg_tup (G' := Gd 8 3); (case h => walk_at "ev"); (case t => assumption); (case hm => decide); (case g => exact fun ds l h => gd_tup h (Nat.le_of_eq l) (by decide)))
  | (apply evg_tup (G' := Gd 3 2); (case h => walk_at "ev"); (case t => assumption); (case hm => decide); (case g => exact fun ds l h => gd_tup h (Nat.le_of_eq l) (by decide)))
  | (apply evg_lst (G' := Gd 8 3); (case h => walk_at "ev"); (case t => assumption); (case hm => decide); (case g => exact fun ds l h => gd_lst h (Nat.le_of_eq l) (by decide)))
  | exact evg_dict1 (G' := Gd 8 3) (by assumption) (fun q H1 S => evg_int (gdB_ok (by decide +kernel))) (fun d g => gd_dict1 g (by decide +kernel) (by decide))))

theorem rB_ge : ∀ k, 100 ≤ rB k
  | 0 => Nat.le_refl _
  | k + 1 => by have := rB_ge k; simp only [rB]; omega
theorem bt_cases : ∀ {k : Nat} {d : PyData}, Bt k d → Leaf d ∨ ∃ j ds, k = j + 1 ∧ d = .tuple ds ∧ 1 ≤ ds.length ∧ ds.length ≤ 3 ∧ ∀ x ∈ ds, Bt j x
  | 0, _, h => .inl h
  | k + 1, _, h => h.elim .inl fun ⟨ds, e, r⟩ => .inr ⟨k, ds, rfl, e, r⟩
theorem small_int {i : Int} (h0 : -20 ≤ i) (h1 : i ≤ 20) : Gd 6 0 (.int i) ∧ Gd 6 0 (.str (toString i)) := by
  obtain ⟨n, hn, rfl⟩ : ∃ n : Nat, n < 41 ∧ i = (n : Int) - 20 := ⟨(i + 20).toNat, by omega, by omega⟩
  have t1 : ∀ n : Fin 41, gdB 6 0 (.int ((n.val : Int) - 20)) = true := by decide +kernel
  have t2 : ∀ n : Fin 41, gdB 6 0 (.str (toString ((n.val : Int) - 20))) = true := by decide +kernel
  exact ⟨gdB_ok (t1 ⟨n, hn⟩), gdB_ok (t2 ⟨n, hn⟩)⟩
theorem small_log {i : Int} (h0 : -3 ≤ i) (h1 : i ≤ 3) : i.natAbs.log2 < 1920 := by
  have := PySem.Flt.log2_lt_of (n := i.natAbs) (k := 6) (by decide) (by omega)
  omega
theorem gd_bool {n k : Nat} (b : Bool) : Gd n k (.bool b) := ⟨rfl, rfl, Nat.zero_le _, Nat.zero_le _⟩
theorem gd_none {n k : Nat} : Gd n k .none := ⟨rfl, rfl, Nat.zero_le _, Nat.zero_le _⟩
theorem leaf_gd {d : PyData} (h : Leaf d) : Gd 2 0 d := by
  rcases h with rfl | ⟨i, rfl, h0, h1⟩
  · exact gdB_ok (by decide +kernel)
  · obtain ⟨n, hn, rfl⟩ : ∃ n : Nat, n < 7 ∧ i = (n : Int) - 3 := ⟨(i + 3).toNat, by omega, by omega⟩
    have t1 : ∀ n : Fin 7, gdB 2 0 (.int ((n.val : Int) - 3)) = true := by decide +kernel
    exact gdB_ok (t1 ⟨n, hn⟩)
theorem wB_ge : ∀ k, 2 ≤ wB k
  | 0 => Nat.le_refl _
  | k + 1 => by have := wB_ge k; simp only [wB]; omega
theorem bt_gd : ∀ {k : Nat} {d : PyData}, Bt k d → Gd (wB k) k d
  | 0, _, h => leaf_gd h
  | k + 1, _, h => by
    rcases h with h | ⟨ds, rfl, _, l, hx⟩
    · exact (leaf_gd h).mono (wB_ge _) (Nat.zero_le _)
    · exact gd_tup (fun d hd => bt_gd (hx d hd)) l (by simp only [wB]; omega)
theorem leaf_lay {d : PyData} (h : Leaf d) : d.canLay0 = true := by
  rcases h with rfl | ⟨i, rfl, _⟩
  · decide +kernel
  · simp [PyData.canLay0]
theorem bt_lay : ∀ {k : Nat} {d : PyData}, Bt k d → d.canLay0 = true
  | 0, _, h => leaf_lay h
  | k + 1, _, h => by
    rcases h with h | ⟨ds, rfl, _, _, hx⟩
    · exact leaf_lay h
    · have all : ∀ {l : List PyData}, (∀ x ∈ l, Bt k x) → PyData.canLayAll0 l = true := by
        intro l
        induction l with
        | nil => intro _; simp [PyData.canLayAll0]
        | cons x r ih => intro h; simp only [PyData.canLayAll0, Bool.and_eq_true]; exact ⟨bt_lay (h x (List.mem_cons_self ..)), ih fun y hy => h y (List.mem_cons_of_mem _ hy)⟩
      simp only [PyData.canLay0]
      exact all hx
theorem bt_shaped {k : Nat} {d : PyData} (h : Bt k d) (hk : k ≤ 60) : SeqAt.shaped d = true := by
  show (d.canLay0 && decide (d.depth ≤ 64)) = true
  rw [bt_lay h, Bool.true_and]
  exact decide_eq_true (by have := (bt_gd h).depth; omega)
theorem ne_nil {ds : List PyData} (h : 1 ≤ ds.length) : PyData.eqv (.tuple ds) (.tuple []) = false := by
  cases ds with
  | nil => exact absurd h (by decide)
  | cons d r => simp only [PyData.eqv, PyData.eqvAll]
theorem Go.isT {p : Addr} {n m : Nat} {H H' : Hp} {N : Addr → Prop} {G : PyData → Prop} {v : V} (g : Go p n H H') (hp : N p) (x : IsT N H G m v) : IsT N H' G m v := by
  obtain ⟨a, xs, rfl, na, e, l, h⟩ := x
  exact ⟨a, xs, rfl, na, g.at e (fun z => na (by rw [z]; exact hp)), l, fun y hy => g.is hp (h y hy)⟩
theorem of_done {p l : Addr} {n m : Nat} {xs : List V} {H H1 : Hp} {G : PyData → Prop} {Q : VK} (pot : PotAt H p n) (S1 : Same H H1) (nl : H l = none) (hl : H1 l = some (.lst xs)) (ll : xs.length = m) (hm : 1 ≤ m ∧ m ≤ 1000) (hn : n ≤ 100000)
    (hx : ∀ x ∈ xs, Is (fun b => b = p) H1 G x) (q : ∀ x H2, Is (fun b => b = p) H2 G x → Go p (n + 1) H H2 → Q x H2) : spOf [.ref p, .ref l] H1 Q E0 :=
  ⟨p, l, n, xs, rfl, fun e => pot.has (by rw [← e]; exact nl), pot.same S1, hn, hl, (fun e => by rw [e] at ll; have : (0 : Nat) = m := ll; omega), by omega, fun x H2 hm2 g => q x H2 (g.is rfl (hx x hm2)) (Go.of S1 g)⟩
section
variable {P : Program} {w : World} {K : PySem.W.Frag} {mg : Str → Option Value} {base : Heap} {a : Ad}
theorem ok_bent {k : Nat} {fd : FuncData} (F : Fun K "_law_bent" "_law_bent" s__law_bent a._law_bent fd) (T : Txt K mg a)
    {fd_take : FuncData} (G__law_take : Fn P w K mg base CX0 1 a._law_take fd_take ["_law_pot_here", "_law_upto"] spTake) (b__law_take : Binds K fd_take ["_law_pot_here", "_law_upto"] [])
    {fd_of : FuncData} (G__law_of : Fn P w K mg base CX0 2 a._law_of fd_of ["_law_pot_here", "_law_some"] spOf) (b__law_of : Binds K fd_of ["_law_pot_here", "_law_some"] [])
    {fd_odd : FuncData} (G__law_odd : Fn P w K mg base CX0 3 a._law_odd fd_odd ["_law_pot_here"] spOdd) (b__law_odd : Binds K fd_odd ["_law_pot_here"] [])
    (G__law_bent : Fn P w K mg base CX0 (3 + k) a._law_bent fd ["_law_pot_here", "_law_value"] (spBent k)) (b__law_bent : Binds K fd ["_law_pot_here", "_law_value"] []) :
    Fn P w K mg base CX0 (3 + k + 1) a._law_bent fd ["_law_pot_here", "_law_value"] (spBent (k + 1)) := by
  refine ok F sc__law_bent (fun vs H Q E h => ?len) (fun cdv A outer s H vs Q E hq hr h => ⟨_,
      (pss_cons (ps_if (PW.pt (pw_and (pt_val (pe_callB call_isi (by rfl) T.n_isinstance (by decide +kernel) (pa_cons (pv 1) (pa_cons (pe_bltn (v := .ty "tuple") (u := .type "tuple") (by rfl) T.n_tuple (by decide +kernel) rfl) pa_nil)))) (pw_and (pt_cmpR (op_neD hr.units) (pv 1) (pe_tup pa_nil) (nomark _)) (pw_and1 (pt_cmpR op_gt (pe_fn G__law_take hq (hr.mono (by omega)) (by rfl) T.g__law_take T.k__law_take b__law_take .nil pass0 (pa_cons (pv 0) (pa_cons pe_int pa_nil))) pe_int (nomark _)))))) (pss_cons (ps_set (i := 2) sc__law_bent.nd rfl (Or.inl rfl) (pe_fn G__law_take hq (hr.mono (by omega)) (by rfl) T.g__law_take T.k__law_take b__law_take .nil pass0 (pa_cons (pv 0) (pa_cons (pe_callB call_len_seq (by rfl) T.n_len (by decide +kernel) (pa_cons (pv 1) pa_nil)) pa_nil))))
      (pss_one (ps_ret (pe_op op_catA (pe_op op_catA (pe_slice sl_tupA (pv 1) po_none (po_some (pv 2))) (pe_tup (pa_cons (pe_fn G__law_bent hq (hr.mono (by omega)) (by rfl) T.g__law_bent T.k__law_bent b__law_bent .nil pass0 (pa_cons (pv 0) (pa_cons (pe_ix ix_tup (pv 1) (pv 2) (fun _ _ => rfl)) pa_nil))) pa_nil))) (pe_slice sl_tupA (pv 1) (po_some (pe_op op_add (pv 2) pe_int)) po_none))))) pss_nil)
      (pss_cons (ps_if (pt_val (pe_callB call_isi (by rfl) T.n_isinstance (by decide +kernel) (pa_cons (pv 1) (pa_cons (pe_bltn (v := .ty "tuple") (u := .type "tuple") (by rfl) T.n_tuple (by decide +kernel) rfl) pa_nil)))) (pss_cons (ps_set (i := 3) sc__law_bent.nd rfl (Or.inl rfl) (pe_lstS (pa_cons (pe_callTy call_listT (by rfl) T.n_list (by decide +kernel) (pa_cons (pv 1) pa_nil)) (pa_cons (pe_slice sl_tupA (pv 1) (po_some pe_int) po_none) (pa_cons (pe_slice sl_tupA (pv 1) po_none (po_some (pe_un un_neg pe_int))) (pa_cons (pe_op op_catA (pv 1) (pe_slice sl_tupA (pv 1) (po_some (pe_un un_neg pe_int)) po_none)) (pa_cons (pe_revT (pv 1)) (pa_cons (pe_tup pa_nil) (pa_cons (pe_op op_catA (pv 1) (pe_tup (pa_cons pe_int pa_nil))) (pa_cons pe_non pa_nil))))))))))
      (pss_one (ps_ret (pe_fn G__law_of hq (hr.mono (by omega)) (by rfl) T.g__law_of T.k__law_of b__law_of .nil pass0 (pa_cons (pv 0) (pa_cons (pv 3) pa_nil)))))) pss_nil)
      (pss_cons (ps_if (pt_val (pe_callB call_isi (by rfl) T.n_isinstance (by decide +kernel) (pa_cons (pv 1) (pa_cons (pe_bltn (v := .ty "str") (u := .type "str") (by rfl) T.n_str (by decide +kernel) rfl) pa_nil)))) (pss_one (ps_ret (pe_fn G__law_of hq (hr.mono (by omega)) (by rfl) T.g__law_of T.k__law_of b__law_of .nil pass0 (pa_cons (pv 0) (pa_cons (pe_lstS (pa_cons (pe_op op_add_str (pv 1) pe_str) (pa_cons (pe_slice sl_str (pv 1) po_none (po_some (pe_un un_neg pe_int))) (pa_cons (pe_upper (pv 1)) (pa_cons (pe_op op_add_str (pv 1) pe_str) (pa_cons (pe_lstS (pa_cons (pv 1) pa_nil)) (pa_cons pe_str (pa_cons pe_str (pa_cons pe_non (pa_cons pe_int pa_nil)))))))))) pa_nil))))) pss_nil)
      (pss_cons (ps_if (pt_val (pe_callB call_isi (by rfl) T.n_isinstance (by decide +kernel) (pa_cons (pv 1) (pa_cons (pe_bltn (v := .ty "bool") (u := .type "bool") (by rfl) T.n_bool (by decide +kernel) rfl) pa_nil)))) (pss_one (ps_ret (pe_fn G__law_of hq (hr.mono (by omega)) (by rfl) T.g__law_of T.k__law_of b__law_of .nil pass0 (pa_cons (pv 0) (pa_cons (pe_lstS (pa_cons (pe_not (pv 1)) (pa_cons (pe_callTy call_int1 (by rfl) T.n_int (by decide +kernel) (pa_cons (pv 1) pa_nil)) (pa_cons pe_non pa_nil)))) pa_nil))))) pss_nil)
      (pss_cons (ps_if (pt_val (pe_callB call_isi (by rfl) T.n_isinstance (by decide +kernel) (pa_cons (pv 1) (pa_cons (pe_bltn (v := .ty "int") (u := .type "int") (by rfl) T.n_int (by decide +kernel) rfl) pa_nil)))) (pss_one (ps_ret (pe_fn G__law_of hq (hr.mono (by omega)) (by rfl) T.g__law_of T.k__law_of b__law_of .nil pass0 (pa_cons (pv 0) (pa_cons (pe_lstS (pa_cons (pe_op op_add (pv 1) pe_int) (pa_cons (pe_op op_sub (pv 1) pe_int) (pa_cons (pe_cmpR op_eq (pv 1) pe_int (nomark _)) (pa_cons (pe_callTy call_str_int (by rfl) T.n_str (by decide +kernel) (pa_cons (pv 1) pa_nil)) (pa_cons (pe_un un_neg pe_int) (pa_cons pe_int (pa_cons pe_int (pa_cons (pe_un un_neg (pv 1)) (pa_cons pe_non (pa_cons (pe_tup (pa_cons (pv 1) pa_nil)) pa_nil))))))))))) pa_nil))))) pss_nil)
      (pss_one (ps_ret (pe_fn G__law_odd hq (hr.mono (by omega)) (by rfl) T.g__law_odd T.k__law_odd b__law_odd .nil pass0 (pa_cons (pv 0) pa_nil))))))))), ?body⟩)
  case len => obtain ⟨p, v, d, n, rfl, _⟩ := h; rfl
  case body =>
    obtain ⟨p, v, d, n, rfl, pot, hk50, hn, hd, hb, q⟩ := h
    have t : Tr (fun b => b = p) H := fun b e => by rw [e]; exact pot.has
    rcases bt_cases hb with leaf | ⟨j, ds, rfl, rfl, l1, l3, hx⟩
    · rcases leaf with rfl | ⟨i, rfl, i0, i1⟩
      · -- a text
        cases hd
        refine ⟨_, rfl, _, _, _, _, false, rfl, .ty _, .base (.str _), kit_ty (by decide +kernel), _, rfl, iteF (iteF ?_)⟩
        refine ⟨_, rfl, _, _, _, _, false, rfl, .ty _, .base (.str _), kit_ty (by decide +kernel), _, rfl, iteF ?_⟩
        refine ⟨_, rfl, _, _, _, _, true, rfl, .ty _, .base (.str _), kit_ty (by decide +kernel), _, rfl, iteT ?_⟩
        refine ⟨_, rfl, eva_list (G := Gd 100 4) (m := 9) t ?ev (by decide) fun l xs H1 S1 nl hl sl ll hx => ?_⟩
        case ev =>
          apply eva_cons (evg_to (fun H1 Q q => ⟨_, rfl, _, _, rfl, rfl, by decide +kernel, q⟩) fun _ => is_str (gdB_ok (by decide +kernel)))
          apply eva_cons (evg_to (fun H1 Q q => ⟨_, rfl, _, rfl, _, rfl, _, rfl, by decide +kernel, q⟩) fun _ => is_str (gdB_ok (by decide +kernel)))
          apply eva_cons (evg_to (fun H1 Q q => ⟨_, rfl, ⟨_, rfl⟩, _, rfl, rfl, by decide +kernel, q⟩) fun _ => is_str (gdB_ok (by decide +kernel)))
          apply eva_cons (evg_to (fun H1 Q q => ⟨_, rfl, _, _, rfl, rfl, by decide +kernel, q⟩) fun _ => is_str (gdB_ok (by decide +kernel)))
          apply eva_cons
          · apply evg_lst (G' := Gd 8 3) (m := 1) t (eva_cons (evg_var rfl (is_str (gdB_ok (by decide +kernel)))) eva_nil) (by decide) (fun ds l h => gd_lst h (Nat.le_of_eq l) (by decide))
          walk_at "ev"
        exact of_done pot S1 nl hl ll (by decide) (by omega) hx fun x H2 i g => q x (n + 1) H2 (i.imp fun d g => g.mono (rB_ge k) (by omega)) g (by omega)
      · -- an int
        cases hd
        refine ⟨_, rfl, _, _, _, _, false, rfl, .ty _, .base (.int _), kit_ty (by decide +kernel), _, rfl, iteF (iteF ?_)⟩
        refine ⟨_, rfl, _, _, _, _, false, rfl, .ty _, .base (.int _), kit_ty (by decide +kernel), _, rfl, iteF ?_⟩
        refine ⟨_, rfl, _, _, _, _, false, rfl, .ty _, .base (.int _), kit_ty (by decide +kernel), _, rfl, iteF ?_⟩
        refine ⟨_, rfl, _, _, _, _, false, rfl, .ty _, .base (.int _), kit_ty (by decide +kernel), _, rfl, iteF ?_⟩
        refine ⟨_, rfl, _, _, _, _, true, rfl, .ty _, .base (.int _), kit_ty (by decide +kernel), _, rfl, iteT ?_⟩
        have sm : ∀ {j : Int}, -20 ≤ j → j ≤ 20 → Gd 100 4 (.int j) := fun h0 h1 => (small_int h0 h1).1.mono (by decide) (by decide)
        refine ⟨_, rfl, eva_list (G := Gd 100 4) (m := 10) t ?ev (by decide) fun l xs H1 S1 nl hl sl ll hx => ?_⟩
        case ev =>
          apply eva_cons (evg_to (fun H1 Q q => ⟨_, rfl, _, _, rfl, rfl, q⟩) fun _ => is_int (sm (by omega) (by omega)))
          apply eva_cons (evg_to (fun H1 Q q => ⟨_, rfl, _, _, rfl, rfl, q⟩) fun _ => is_int (sm (by omega) (by omega)))
          apply eva_cons (evg_to (fun H1 Q q => ⟨_, rfl, rfl, q⟩) fun _ => is_bl (gd_bool _))
          apply eva_cons (evg_to (fun H1 Q q => ⟨_, rfl, _, rfl, small_log i0 i1, q⟩) fun _ => is_str ((small_int (i := i) (by omega) (by omega)).2.mono (by decide) (by decide)))
          apply eva_cons
          · walk_at "ev"
          apply eva_cons
          · walk_at "ev"
          apply eva_cons
          · walk_at "ev"
          apply eva_cons (evg_to (fun H1 Q q => ⟨_, rfl, _, rfl, q⟩) fun _ => is_int (sm (by omega) (by omega)))
          apply eva_cons
          · walk_at "ev"
          apply eva_cons
          · apply evg_tup (G' := Gd 6 0) (m := 1) t (eva_cons (evg_var rfl (is_int (small_int (by omega) (by omega)).1)) eva_nil) (by decide) (fun ds l h => (gd_tup (N := 100) h (Nat.le_of_eq l) (by decide)).mono (Nat.le_refl _) (by decide))
          exact eva_nil
        exact of_done pot S1 nl hl ll (by decide) (by omega) hx fun x H2 i g => q x (n + 1) H2 (i.imp fun d g => g.mono (rB_ge k) (by omega)) g (by omega)
    · -- a tuple
      obtain ⟨tp, xs, rfl, ntp, htp, lxs, hxs⟩ : ∃ tp xs, v = .ref tp ∧ tp ≠ p ∧ H tp = some (.tup xs) ∧ xs.length = ds.length ∧ ∀ x ∈ xs, Is (fun b => b = p) H (Bt j) x := by
        cases hd with
        | tup e al => exact ⟨_, _, rfl, (mask_some e).1, (mask_some e).2, al.length, is_of_daAll al hx⟩
      have hv : IsT (fun b => b = p) H (Bt j) 3 (.ref tp) := ⟨tp, xs, rfl, ntp, htp, by omega, hxs⟩
      refine ⟨_, rfl, _, _, _, _, true, rfl, .ty _, .base (.tup htp), kit_ty (by decide +kernel), _, rfl, iteT ?_⟩
      refine ⟨_, rfl, (by show 0 ≤ sizeLine; decide), fun p1 h1 => ?_⟩
      have S1 : Same H (upd H p1 (.tup [])) := same_new h1
      refine ⟨.tuple ds, .tuple [], ((hd.same (wo_le p H)).same S1).dp (bt_lay hb), .tup (SqT.of upd_same) .nil, bt_shaped hb (by omega), by decide +kernel, _, rfl, ?_⟩
      rw [ne_nil l1]
      refine iteT ?_
      refine ⟨_, rfl, p, _, n, rfl, pot.same S1, by omega, by decide, by decide, fun d1 H2 d0 d6 g2 => ⟨_, _, rfl, rfl, _, rfl, ite2 (fun c => ?_) (fun c => ?_)⟩⟩
      · have g2 : Go p (n + 1) H H2 := Go.of S1 g2
        have hv2 := Go.isT (N := fun b => b = p) g2 rfl hv
        have htp2 := g2.at htp ntp
        refine ⟨_, rfl, _, rfl, _, _, rfl, .inr (SqT.of htp2), p, _, n + 1, rfl, g2.pot, by omega, by omega, by omega, fun at_ H3 a0 a1 g3 => ?_⟩
        have hv3 := Go.isT (N := fun b => b = p) g3 rfl hv2
        have htp3 := g3.at htp2 ntp
        have t3 : Tr (fun b => b = p) H3 := fun b e => by rw [e]; exact g3.pot.has
        refine s_ret (t_op (t_op (evt_sl t3 (evt_var rfl hv3) evo_none (evo_var rfl) H3 (Same.refl _) _ fun u1 H4 S4 is4 => ?_)))
        have lx : at_.toNat < xs.length := by omega
        have g4 : Go p (n + 2) H H3 := g2.trans g3
        -- v[at]
        obtain ⟨dj, hdj, bj⟩ : ∃ d, Da (wo p H4) xs[at_.toNat] d ∧ Bt j d := by
          obtain ⟨a', xs', e', na', ht', _, hx'⟩ := hv3.same S4
          obtain rfl := V.ref.inj e'
          have e2 := (S4 _ _ htp3).symm.trans ht'
          obtain rfl : xs = xs' := by injection e2 with e2; injection e2
          obtain ⟨d, y, z⟩ := hx' _ (List.getElem_mem lx)
          exact ⟨d, y, z⟩
        refine ⟨_, rfl, _, rfl, _, rfl, _, _, _, _, rfl, rfl, SqT.of (S4 _ _ htp3), at_of (j := at_.toNat) (by omega) (List.getElem?_eq_getElem lx), ?_⟩
        refine ⟨p, _, dj, n + 2, rfl, g4.pot.same S4, by omega, by omega, hdj, bj, fun u2 m2 H5 is5 g5 hm2 => ?_⟩
        refine ⟨(by show 1 ≤ sizeLine; decide), fun t2 h2 => ?_⟩
        have is4' := (Go.isT (N := fun b => b = p) g5 rfl is4).same (same_new (o := .tup [u2]) h2)
        have hv5 := (Go.isT (N := fun b => b = p) g5 rfl (hv3.same S4)).same (same_new (o := .tup [u2]) h2)
        have u25 := is5.same (same_new (o := .tup [u2]) h2)
        have t5 : Tr (fun b => b = p) (upd H5 t2 (.tup [u2])) := fun b e => by rw [e]; exact (g5.pot.same (same_new h2)).has
        have nt2 : t2 ≠ p := fun e => g5.pot.has (by rw [← e]; exact h2)
        obtain ⟨a1, ys, e1, na1, ha1, ly, hys⟩ := is4'
        subst e1
        refine catA_any ha1 upd_same (by show ys.length + 1 ≤ 100000; omega) fun c6 H6 S6 hc6 w6 => ?_
        refine evt_sl (t5.same S6) (evt_var rfl (hv5.same S6)) (evo_add rfl) evo_none H6 (Same.refl _) _ fun u3 H7 S7 ⟨a3, zs, e3, na3, ha3, lz, hzs⟩ => ?_
        subst e3
        refine catA_any (S7 _ _ hc6) ha3 (by show (ys ++ [u2]).length + zs.length ≤ 100000; rw [List.length_append]; show ys.length + 1 + zs.length ≤ 100000; omega) fun c8 H8 S8 hc8 w8 => ?_
        have nc6 : c6 ≠ p := by
          rcases w6 with z | z | z
          · rw [z]; exact na1
          · rw [z]; exact nt2
          · intro e
            exact (g5.pot.same (same_new (o := .tup [u2]) h2)).has (by rw [← e]; exact z)
        have S58 : Same (upd H5 t2 (.tup [u2])) H8 := (S6.trans S7).trans S8
        have nc8 : c8 ≠ p := by
          rcases w8 with z | z | z
          · rw [z]; exact nc6
          · rw [z]; exact na3
          · intro e
            exact (((g5.pot.same (same_new (o := .tup [u2]) h2)).same S6).same S7).has (by rw [← e]; exact z)
        refine q _ m2 H8 (is_tup (G' := Gd (rB j + wB j) (4 + j)) nc8 hc8 ?_ fun ds' e' hd' => gd_tup hd' (m := 7) ?_ ?_) ⟨?_, ((g5.pot.same (same_new h2)).same S58)⟩ (by omega)
        · intro x hm
          have up : ∀ d, Bt j d → Gd (rB j + wB j) (4 + j) d := fun d b => (bt_gd b).mono (by omega) (by omega)
          rcases List.mem_append.mp hm with z | z
          · rcases List.mem_append.mp z with z | z
            · exact ((hys x z).imp up).same S58
            · obtain rfl : x = u2 := by simpa using z
              exact (u25.imp fun d g => g.mono (by omega) (by omega)).same S58
          · exact ((hzs x z).imp up).same S8
        · rw [e', List.length_append, List.length_append]
          show ys.length + 1 + zs.length ≤ 7
          omega
        · simp only [rB]; omega
        · exact ((g4.keep.trans (mask_mono S4)).trans g5.keep).trans (mask_mono ((same_new h2).trans S58))
      · -- the whole bent
        have g2 : Go p (n + 1) H H2 := Go.of S1 g2
        have hv2 := Go.isT (N := fun b => b = p) g2 rfl hv
        have htp2 := g2.at htp ntp
        have t2 : Tr (fun b => b = p) H2 := fun b e => by rw [e]; exact g2.pot.has
        have w2 := wB_ge j
        have hvg : IsT (fun b => b = p) H2 (Gd (wB j) j) 3 (.ref tp) := by
          obtain ⟨a', xs', e', na', ht', l', hx'⟩ := hv2
          exact ⟨a', xs', e', na', ht', l', fun x hm => (hx' x hm).imp fun d b => bt_gd b⟩
        have big : 7 * (wB j + 1) ≤ rB (j + 1) := by simp only [rB]; omega
        have gt : ∀ m, m ≤ 7 → ∀ ds : List PyData, ds.length ≤ m → (∀ d ∈ ds, Gd (wB j) j d) → Gd (rB (j + 1)) (4 + (j + 1)) (.tuple ds) := fun m hm ds l h =>
          (gd_tup h l (Nat.mul_le_mul_right _ hm)).mono big (by omega)
        have gl : ∀ m, m ≤ 7 → ∀ ds : List PyData, ds.length ≤ m → (∀ d ∈ ds, Gd (wB j) j d) → Gd (rB (j + 1)) (4 + (j + 1)) (.list ds) := fun m hm ds l h =>
          (gd_lst h l (Nat.mul_le_mul_right _ hm)).mono big (by omega)
        refine ⟨_, rfl, _, _, _, _, true, rfl, .ty _, .base (.tup htp2), kit_ty (by decide +kernel), _, rfl, iteT ?_⟩
        refine s_set (eva_list (G := Gd (rB (j + 1)) (4 + (j + 1))) (m := 8) t2 ?ev (by decide) fun l zs H3 S3 nl hl sl ll hx3 => ?_)
        case ev =>
          apply eva_cons (evg_listT t2 (evt_var rfl hvg) (gl 3 (by decide)))
          apply eva_cons ((evt_sl t2 (evt_var rfl hvg) evo_int evo_none).g (gt 3 (by decide)))
          apply eva_cons ((evt_sl t2 (evt_var rfl hvg) evo_none evo_neg).g (gt 3 (by decide)))
          apply eva_cons ((evt_cat t2 (evt_var rfl hvg) (evt_sl t2 (evt_var rfl hvg) evo_neg evo_none) (by decide)).g (gt 6 (by decide)))
          apply eva_cons ((evt_rev t2 (evt_var rfl hvg)).g (gt 3 (by decide)))
          apply eva_cons ((evt_tup (G := Gd (wB j) j) t2 eva_nil (by decide)).g (gt 0 (by decide)))
          apply eva_cons ((evt_cat t2 (evt_var rfl hvg) (evt_tup t2 (eva_cons (evg_int ((gdB_ok (n := 0) (k := 0) (by decide +kernel)).mono (Nat.zero_le _) (Nat.zero_le _))) eva_nil) (by decide)) (by decide)).g (gt 4 (by decide)))
          exact eva_cons (evg_non gd_none) eva_nil
        refine ⟨_, rfl, _, rfl, ?_⟩
        exact of_done g2.pot S3 nl hl ll (by decide) (by omega) hx3 fun x H4 i g => q x (n + 2) H4 i (g2.trans g) (by omega)
end
end My

namespace My
open PySem PySem.Spec PyProof.Rows L2 G
abbrev s__law_all : Stmt := topS 40
theorem sc__law_all : FnScope ["_law_value", "_law_found"] ["_law_value"] (defScope s__law_all) := ⟨rfl, rfl, rfl, by decide +kernel, rfl, by decide +kernel, by decide +kernel⟩

abbrev s__law_kinds : Stmt := topS 41
theorem sc__law_kinds : FnScope ["_law_error", "_law_found"] ["_law_error"] (defScope s__law_kinds) := ⟨rfl, rfl, rfl, by decide +kernel, rfl, by decide +kernel, by decide +kernel⟩

abbrev s_init : Stmt := inClass (topS 1) 0
theorem sc_init : FnScope ["self", "value"] ["self", "value"] (defScope s_init) := ⟨rfl, rfl, rfl, by decide +kernel, rfl, by decide +kernel, by decide +kernel⟩
def Ad.cs (a : Ad) : List Addr := [a.BadRatio, a.BadText, a.BadPoint, a.BadNumber, a.Off, a.BadChart, a.NoMark, a.BadLine, a.Needed, a.AtMark, a.BadNames, a.BadSides, a.NoCell, a.BadCells, a.BadLand, a.BadRound, a.OverMark, a.OnLine, a.BadLog, a.BadScript, a.NoLap, a.BadAsk, a.Unlike, a.BadOffers, a.BadAsks, a.Lost, a.NothingToUndo, a.NothingToRedo, a.NoTrial, a.BadJournal, a.BadSay]
def spAll (a : Ad) : Sp := fun vs H Q _ => ∃ v, vs = [v] ∧ ∀ l xs H', H l = none → Same H H' → H' l = some (.lst xs) → xs.length = 31 → Ers v a.cs H' xs → Q (.ref l) H'
def spKinds (K : PySem.W.Frag) (a : Ad) : Sp := fun vs H Q _ => ∃ (e C : Addr) (v : V) (f : Nat → Bool), vs = [.ref e] ∧ EC K C ∧ ErrAt H e C v ∧ (∀ i, i < 31 → PySem.W.kitOne K (.ref C) (.ref (a.cs.getD i 0)) = some (f i)) ∧
  ∀ l H', H l = none → Same H H' → H' l = some (.lst (((List.range 31).map f).map V.bl)) → Q (.ref l) H'
section
variable {P : Program} {w : World} {K : PySem.W.Frag} {mg : Str → Option Value} {base : Heap} {a : Ad}
theorem ok_init {f : Addr} {fd : FuncData} (F : Fun K "__init__" "AboutError.__init__" s_init f fd) : FnOk P w K mg base CX0 1 f fd ["self", "value"] (spErrInit K) := by
  refine F.ok sc_init (fun vs H Q E h => ?_) (fun cdv A outer s H vs Q E hr h => ?_)
  · obtain ⟨p, C, v, rfl, _⟩ := h
    rfl
  · obtain ⟨p, C, v, rfl, T, nv, hp, q⟩ := h
    exact ⟨_, pss_one (ps_ost (pv 0) (pv 1)), _, rfl, _, rfl, p, C, rfl, T, nv, .inl ⟨hp, fun dx h1 h2 => q dx h1 h2⟩⟩
theorem ok__law_all {fd : FuncData} (F : Fun K "_law_all" "_law_all" s__law_all a._law_all fd) (T : Txt K mg a)
    {fd_init : FuncData} (G_init : FnOk P w K mg base CX0 1 a.init fd_init ["self", "value"] (spErrInit K)) (b_init : Binds K fd_init ["self", "value"] []) :
    Fn P w K mg base CX0 3 a._law_all fd ["_law_value"] (spAll a) := by
  refine ok F sc__law_all (fun vs H Q E h => ?len) (fun cdv A outer s H vs Q E hq hr h => ⟨_,
      (pss_cons (ps_set (i := 1) sc__law_all.nd rfl (Or.inl rfl) (pe_lstS (pa_cons (pe_err (T.c_BadRatio) (T.i_BadRatio) T.tI G_init (hr.mono (by omega)) b_init pass0 (by rfl) T.g_BadRatio (pa_cons (pv 0) pa_nil)) (pa_cons (pe_err (T.c_BadText) (T.i_BadText) T.tI G_init (hr.mono (by omega)) b_init pass0 (by rfl) T.g_BadText (pa_cons (pv 0) pa_nil)) (pa_cons (pe_err (T.c_BadPoint) (T.i_BadPoint) T.tI G_init (hr.mono (by omega)) b_init pass0 (by rfl) T.g_BadPoint (pa_cons (pv 0) pa_nil)) (pa_cons (pe_err (T.c_BadNumber) (T.i_BadNumber) T.tI G_init (hr.mono (by omega)) b_init pass0 (by rfl) T.g_BadNumber (pa_cons (pv 0) pa_nil)) (pa_cons (pe_err (T.c_Off) (T.i_Off) T.tI G_init (hr.mono (by omega)) b_init pass0 (by rfl) T.g_Off (pa_cons (pv 0) pa_nil)) (pa_cons (pe_err (T.c_BadChart) (T.i_BadChart) T.tI G_init (hr.mono (by omega)) b_init pass0 (by rfl) T.g_BadChart (pa_cons (pv 0) pa_nil)) pa_nil))))))))
      (pss_cons (ps_set (i := 1) sc__law_all.nd rfl (Or.inl rfl) (pe_op op_cat (pv 1) (pe_lstS (pa_cons (pe_err (T.c_NoMark) (T.i_NoMark) T.tI G_init (hr.mono (by omega)) b_init pass0 (by rfl) T.g_NoMark (pa_cons (pv 0) pa_nil)) (pa_cons (pe_err (T.c_BadLine) (T.i_BadLine) T.tI G_init (hr.mono (by omega)) b_init pass0 (by rfl) T.g_BadLine (pa_cons (pv 0) pa_nil)) (pa_cons (pe_err (T.c_Needed) (T.i_Needed) T.tI G_init (hr.mono (by omega)) b_init pass0 (by rfl) T.g_Needed (pa_cons (pv 0) pa_nil)) (pa_cons (pe_err (T.c_AtMark) (T.i_AtMark) T.tI G_init (hr.mono (by omega)) b_init pass0 (by rfl) T.g_AtMark (pa_cons (pv 0) pa_nil)) (pa_cons (pe_err (T.c_BadNames) (T.i_BadNames) T.tI G_init (hr.mono (by omega)) b_init pass0 (by rfl) T.g_BadNames (pa_cons (pv 0) pa_nil)) (pa_cons (pe_err (T.c_BadSides) (T.i_BadSides) T.tI G_init (hr.mono (by omega)) b_init pass0 (by rfl) T.g_BadSides (pa_cons (pv 0) pa_nil)) pa_nil)))))))))
      (pss_cons (ps_set (i := 1) sc__law_all.nd rfl (Or.inl rfl) (pe_op op_cat (pv 1) (pe_lstS (pa_cons (pe_err (T.c_NoCell) (T.i_NoCell) T.tI G_init (hr.mono (by omega)) b_init pass0 (by rfl) T.g_NoCell (pa_cons (pv 0) pa_nil)) (pa_cons (pe_err (T.c_BadCells) (T.i_BadCells) T.tI G_init (hr.mono (by omega)) b_init pass0 (by rfl) T.g_BadCells (pa_cons (pv 0) pa_nil)) (pa_cons (pe_err (T.c_BadLand) (T.i_BadLand) T.tI G_init (hr.mono (by omega)) b_init pass0 (by rfl) T.g_BadLand (pa_cons (pv 0) pa_nil)) (pa_cons (pe_err (T.c_BadRound) (T.i_BadRound) T.tI G_init (hr.mono (by omega)) b_init pass0 (by rfl) T.g_BadRound (pa_cons (pv 0) pa_nil)) (pa_cons (pe_err (T.c_OverMark) (T.i_OverMark) T.tI G_init (hr.mono (by omega)) b_init pass0 (by rfl) T.g_OverMark (pa_cons (pv 0) pa_nil)) (pa_cons (pe_err (T.c_OnLine) (T.i_OnLine) T.tI G_init (hr.mono (by omega)) b_init pass0 (by rfl) T.g_OnLine (pa_cons (pv 0) pa_nil)) pa_nil)))))))))
      (pss_cons (ps_set (i := 1) sc__law_all.nd rfl (Or.inl rfl) (pe_op op_cat (pv 1) (pe_lstS (pa_cons (pe_err (T.c_BadLog) (T.i_BadLog) T.tI G_init (hr.mono (by omega)) b_init pass0 (by rfl) T.g_BadLog (pa_cons (pv 0) pa_nil)) (pa_cons (pe_err (T.c_BadScript) (T.i_BadScript) T.tI G_init (hr.mono (by omega)) b_init pass0 (by rfl) T.g_BadScript (pa_cons (pv 0) pa_nil)) (pa_cons (pe_err (T.c_NoLap) (T.i_NoLap) T.tI G_init (hr.mono (by omega)) b_init pass0 (by rfl) T.g_NoLap (pa_cons (pv 0) pa_nil)) (pa_cons (pe_err (T.c_BadAsk) (T.i_BadAsk) T.tI G_init (hr.mono (by omega)) b_init pass0 (by rfl) T.g_BadAsk (pa_cons (pv 0) pa_nil)) (pa_cons (pe_err (T.c_Unlike) (T.i_Unlike) T.tI G_init (hr.mono (by omega)) b_init pass0 (by rfl) T.g_Unlike (pa_cons (pv 0) pa_nil)) (pa_cons (pe_err (T.c_BadOffers) (T.i_BadOffers) T.tI G_init (hr.mono (by omega)) b_init pass0 (by rfl) T.g_BadOffers (pa_cons (pv 0) pa_nil)) pa_nil)))))))))
      (pss_cons (ps_set (i := 1) sc__law_all.nd rfl (Or.inl rfl) (pe_op op_cat (pv 1) (pe_lstS (pa_cons (pe_err (T.c_BadAsks) (T.i_BadAsks) T.tI G_init (hr.mono (by omega)) b_init pass0 (by rfl) T.g_BadAsks (pa_cons (pv 0) pa_nil)) (pa_cons (pe_err (T.c_Lost) (T.i_Lost) T.tI G_init (hr.mono (by omega)) b_init pass0 (by rfl) T.g_Lost (pa_cons (pv 0) pa_nil)) (pa_cons (pe_err (T.c_NothingToUndo) (T.i_NothingToUndo) T.tI G_init (hr.mono (by omega)) b_init pass0 (by rfl) T.g_NothingToUndo (pa_cons (pv 0) pa_nil)) (pa_cons (pe_err (T.c_NothingToRedo) (T.i_NothingToRedo) T.tI G_init (hr.mono (by omega)) b_init pass0 (by rfl) T.g_NothingToRedo (pa_cons (pv 0) pa_nil)) (pa_cons (pe_err (T.c_NoTrial) (T.i_NoTrial) T.tI G_init (hr.mono (by omega)) b_init pass0 (by rfl) T.g_NoTrial (pa_cons (pv 0) pa_nil)) pa_nil))))))))
      (pss_one (ps_ret (pe_op op_cat (pv 1) (pe_lstS (pa_cons (pe_err (T.c_BadJournal) (T.i_BadJournal) T.tI G_init (hr.mono (by omega)) b_init pass0 (by rfl) T.g_BadJournal (pa_cons (pv 0) pa_nil)) (pa_cons (pe_err (T.c_BadSay) (T.i_BadSay) T.tI G_init (hr.mono (by omega)) b_init pass0 (by rfl) T.g_BadSay (pa_cons (pv 0) pa_nil)) pa_nil))))))))))), ?body⟩)
  case len => obtain ⟨v, rfl, _⟩ := h; rfl
  case body =>
    obtain ⟨v, rfl, q⟩ := h
    have st := ers_stays v
    refine s_set (lstP (P := Ers v [a.BadRatio, a.BadText, a.BadPoint, a.BadNumber, a.Off, a.BadChart]) (m := 6) ?e1 (by decide) (st _) fun l1 x1 H1 S1 n1 h1 c1 p1 => ?_)
    case e1 => repeat (first | exact eve_nil | apply eve_is rfl)
    refine s_set (catP (P := Ers v [a.BadRatio, a.BadText, a.BadPoint, a.BadNumber, a.Off, a.BadChart, a.NoMark, a.BadLine, a.Needed, a.AtMark, a.BadNames, a.BadSides]) (P1 := Ers v [a.NoMark, a.BadLine, a.Needed, a.AtMark, a.BadNames, a.BadSides]) (m := 6) rfl h1 p1 (st _) c1 ?e2 (st _) (by decide) ers_app (st _) fun l2 x2 H2 S2 n2 h2 c2 p2 => ?_)
    case e2 => repeat (first | exact eve_nil | apply eve_is rfl)
    refine s_set (catP (P := Ers v [a.BadRatio, a.BadText, a.BadPoint, a.BadNumber, a.Off, a.BadChart, a.NoMark, a.BadLine, a.Needed, a.AtMark, a.BadNames, a.BadSides, a.NoCell, a.BadCells, a.BadLand, a.BadRound, a.OverMark, a.OnLine]) (P1 := Ers v [a.NoCell, a.BadCells, a.BadLand, a.BadRound, a.OverMark, a.OnLine]) (m := 6) rfl h2 p2 (st _) c2 ?e3 (st _) (by decide) ers_app (st _) fun l3 x3 H3 S3 n3 h3 c3 p3 => ?_)
    case e3 => repeat (first | exact eve_nil | apply eve_is rfl)
    refine s_set (catP (P := Ers v [a.BadRatio, a.BadText, a.BadPoint, a.BadNumber, a.Off, a.BadChart, a.NoMark, a.BadLine, a.Needed, a.AtMark, a.BadNames, a.BadSides, a.NoCell, a.BadCells, a.BadLand, a.BadRound, a.OverMark, a.OnLine, a.BadLog, a.BadScript, a.NoLap, a.BadAsk, a.Unlike, a.BadOffers]) (P1 := Ers v [a.BadLog, a.BadScript, a.NoLap, a.BadAsk, a.Unlike, a.BadOffers]) (m := 6) rfl h3 p3 (st _) c3 ?e4 (st _) (by decide) ers_app (st _) fun l4 x4 H4 S4 n4 h4 c4 p4 => ?_)
    case e4 => repeat (first | exact eve_nil | apply eve_is rfl)
    refine s_set (catP (P := Ers v [a.BadRatio, a.BadText, a.BadPoint, a.BadNumber, a.Off, a.BadChart, a.NoMark, a.BadLine, a.Needed, a.AtMark, a.BadNames, a.BadSides, a.NoCell, a.BadCells, a.BadLand, a.BadRound, a.OverMark, a.OnLine, a.BadLog, a.BadScript, a.NoLap, a.BadAsk, a.Unlike, a.BadOffers, a.BadAsks, a.Lost, a.NothingToUndo, a.NothingToRedo, a.NoTrial]) (P1 := Ers v [a.BadAsks, a.Lost, a.NothingToUndo, a.NothingToRedo, a.NoTrial]) (m := 5) rfl h4 p4 (st _) c4 ?e5 (st _) (by decide) ers_app (st _) fun l5 x5 H5 S5 n5 h5 c5 p5 => ?_)
    case e5 => repeat (first | exact eve_nil | apply eve_is rfl)
    refine s_ret (catP (P := Ers v [a.BadRatio, a.BadText, a.BadPoint, a.BadNumber, a.Off, a.BadChart, a.NoMark, a.BadLine, a.Needed, a.AtMark, a.BadNames, a.BadSides, a.NoCell, a.BadCells, a.BadLand, a.BadRound, a.OverMark, a.OnLine, a.BadLog, a.BadScript, a.NoLap, a.BadAsk, a.Unlike, a.BadOffers, a.BadAsks, a.Lost, a.NothingToUndo, a.NothingToRedo, a.NoTrial, a.BadJournal, a.BadSay]) (P1 := Ers v [a.BadJournal, a.BadSay]) (m := 2) rfl h5 p5 (st _) c5 ?e6 (st _) (by decide) ers_app (st _) fun l6 x6 H6 S6 n6 h6 c6 p6 => ?_)
    case e6 => repeat (first | exact eve_nil | apply eve_is rfl)
    have S5' : Same H H5 := (((S1.trans S2).trans S3).trans S4).trans S5
    exact q l6 x6 H6 (S5'.free n6) (S5'.trans S6) h6 c6 p6
theorem ok__law_kinds {fd : FuncData} (F : Fun K "_law_kinds" "_law_kinds" s__law_kinds a._law_kinds fd) (T : Txt K mg a) :
    Fn P w K mg base CX0 1 a._law_kinds fd ["_law_error"] (spKinds K a) := by
  refine ok F sc__law_kinds (fun vs H Q E h => ?len) (fun cdv A outer s H vs Q E hq hr h => ⟨_,
      (pss_cons (ps_set (i := 1) sc__law_kinds.nd rfl (Or.inl rfl) (pe_lstS (pa_cons (pe_callB (call_isErr T.ek) (by rfl) T.n_isinstance (by decide +kernel) (pa_cons (pv 0) (pa_cons (pe_glob (v := .ref a.BadRatio) (by rfl) T.g_BadRatio rfl) pa_nil))) (pa_cons (pe_callB (call_isErr T.ek) (by rfl) T.n_isinstance (by decide +kernel) (pa_cons (pv 0) (pa_cons (pe_glob (v := .ref a.BadText) (by rfl) T.g_BadText rfl) pa_nil))) (pa_cons (pe_callB (call_isErr T.ek) (by rfl) T.n_isinstance (by decide +kernel) (pa_cons (pv 0) (pa_cons (pe_glob (v := .ref a.BadPoint) (by rfl) T.g_BadPoint rfl) pa_nil))) pa_nil)))))
      (pss_cons (ps_set (i := 1) sc__law_kinds.nd rfl (Or.inl rfl) (pe_op op_cat (pv 1) (pe_lstS (pa_cons (pe_callB (call_isErr T.ek) (by rfl) T.n_isinstance (by decide +kernel) (pa_cons (pv 0) (pa_cons (pe_glob (v := .ref a.BadNumber) (by rfl) T.g_BadNumber rfl) pa_nil))) (pa_cons (pe_callB (call_isErr T.ek) (by rfl) T.n_isinstance (by decide +kernel) (pa_cons (pv 0) (pa_cons (pe_glob (v := .ref a.Off) (by rfl) T.g_Off rfl) pa_nil))) (pa_cons (pe_callB (call_isErr T.ek) (by rfl) T.n_isinstance (by decide +kernel) (pa_cons (pv 0) (pa_cons (pe_glob (v := .ref a.BadChart) (by rfl) T.g_BadChart rfl) pa_nil))) pa_nil))))))
      (pss_cons (ps_set (i := 1) sc__law_kinds.nd rfl (Or.inl rfl) (pe_op op_cat (pv 1) (pe_lstS (pa_cons (pe_callB (call_isErr T.ek) (by rfl) T.n_isinstance (by decide +kernel) (pa_cons (pv 0) (pa_cons (pe_glob (v := .ref a.NoMark) (by rfl) T.g_NoMark rfl) pa_nil))) (pa_cons (pe_callB (call_isErr T.ek) (by rfl) T.n_isinstance (by decide +kernel) (pa_cons (pv 0) (pa_cons (pe_glob (v := .ref a.BadLine) (by rfl) T.g_BadLine rfl) pa_nil))) (pa_cons (pe_callB (call_isErr T.ek) (by rfl) T.n_isinstance (by decide +kernel) (pa_cons (pv 0) (pa_cons (pe_glob (v := .ref a.Needed) (by rfl) T.g_Needed rfl) pa_nil))) pa_nil))))))
      (pss_cons (ps_set (i := 1) sc__law_kinds.nd rfl (Or.inl rfl) (pe_op op_cat (pv 1) (pe_lstS (pa_cons (pe_callB (call_isErr T.ek) (by rfl) T.n_isinstance (by decide +kernel) (pa_cons (pv 0) (pa_cons (pe_glob (v := .ref a.AtMark) (by rfl) T.g_AtMark rfl) pa_nil))) (pa_cons (pe_callB (call_isErr T.ek) (by rfl) T.n_isinstance (by decide +kernel) (pa_cons (pv 0) (pa_cons (pe_glob (v := .ref a.BadNames) (by rfl) T.g_BadNames rfl) pa_nil))) (pa_cons (pe_callB (call_isErr T.ek) (by rfl) T.n_isinstance (by decide +kernel) (pa_cons (pv 0) (pa_cons (pe_glob (v := .ref a.BadSides) (by rfl) T.g_BadSides rfl) pa_nil))) pa_nil))))))
      (pss_cons (ps_set (i := 1) sc__law_kinds.nd rfl (Or.inl rfl) (pe_op op_cat (pv 1) (pe_lstS (pa_cons (pe_callB (call_isErr T.ek) (by rfl) T.n_isinstance (by decide +kernel) (pa_cons (pv 0) (pa_cons (pe_glob (v := .ref a.NoCell) (by rfl) T.g_NoCell rfl) pa_nil))) (pa_cons (pe_callB (call_isErr T.ek) (by rfl) T.n_isinstance (by decide +kernel) (pa_cons (pv 0) (pa_cons (pe_glob (v := .ref a.BadCells) (by rfl) T.g_BadCells rfl) pa_nil))) (pa_cons (pe_callB (call_isErr T.ek) (by rfl) T.n_isinstance (by decide +kernel) (pa_cons (pv 0) (pa_cons (pe_glob (v := .ref a.BadLand) (by rfl) T.g_BadLand rfl) pa_nil))) pa_nil))))))
      (pss_cons (ps_set (i := 1) sc__law_kinds.nd rfl (Or.inl rfl) (pe_op op_cat (pv 1) (pe_lstS (pa_cons (pe_callB (call_isErr T.ek) (by rfl) T.n_isinstance (by decide +kernel) (pa_cons (pv 0) (pa_cons (pe_glob (v := .ref a.BadRound) (by rfl) T.g_BadRound rfl) pa_nil))) (pa_cons (pe_callB (call_isErr T.ek) (by rfl) T.n_isinstance (by decide +kernel) (pa_cons (pv 0) (pa_cons (pe_glob (v := .ref a.OverMark) (by rfl) T.g_OverMark rfl) pa_nil))) (pa_cons (pe_callB (call_isErr T.ek) (by rfl) T.n_isinstance (by decide +kernel) (pa_cons (pv 0) (pa_cons (pe_glob (v := .ref a.OnLine) (by rfl) T.g_OnLine rfl) pa_nil))) pa_nil))))))
      (pss_cons (ps_set (i := 1) sc__law_kinds.nd rfl (Or.inl rfl) (pe_op op_cat (pv 1) (pe_lstS (pa_cons (pe_callB (call_isErr T.ek) (by rfl) T.n_isinstance (by decide +kernel) (pa_cons (pv 0) (pa_cons (pe_glob (v := .ref a.BadLog) (by rfl) T.g_BadLog rfl) pa_nil))) (pa_cons (pe_callB (call_isErr T.ek) (by rfl) T.n_isinstance (by decide +kernel) (pa_cons (pv 0) (pa_cons (pe_glob (v := .ref a.BadScript) (by rfl) T.g_BadScript rfl) pa_nil))) (pa_cons (pe_callB (call_isErr T.ek) (by rfl) T.n_isinstance (by decide +kernel) (pa_cons (pv 0) (pa_cons (pe_glob (v := .ref a.NoLap) (by rfl) T.g_NoLap rfl) pa_nil))) pa_nil))))))
      (pss_cons (ps_set (i := 1) sc__law_kinds.nd rfl (Or.inl rfl) (pe_op op_cat (pv 1) (pe_lstS (pa_cons (pe_callB (call_isErr T.ek) (by rfl) T.n_isinstance (by decide +kernel) (pa_cons (pv 0) (pa_cons (pe_glob (v := .ref a.BadAsk) (by rfl) T.g_BadAsk rfl) pa_nil))) (pa_cons (pe_callB (call_isErr T.ek) (by rfl) T.n_isinstance (by decide +kernel) (pa_cons (pv 0) (pa_cons (pe_glob (v := .ref a.Unlike) (by rfl) T.g_Unlike rfl) pa_nil))) (pa_cons (pe_callB (call_isErr T.ek) (by rfl) T.n_isinstance (by decide +kernel) (pa_cons (pv 0) (pa_cons (pe_glob (v := .ref a.BadOffers) (by rfl) T.g_BadOffers rfl) pa_nil))) pa_nil))))))
      (pss_cons (ps_set (i := 1) sc__law_kinds.nd rfl (Or.inl rfl) (pe_op op_cat (pv 1) (pe_lstS (pa_cons (pe_callB (call_isErr T.ek) (by rfl) T.n_isinstance (by decide +kernel) (pa_cons (pv 0) (pa_cons (pe_glob (v := .ref a.BadAsks) (by rfl) T.g_BadAsks rfl) pa_nil))) (pa_cons (pe_callB (call_isErr T.ek) (by rfl) T.n_isinstance (by decide +kernel) (pa_cons (pv 0) (pa_cons (pe_glob (v := .ref a.Lost) (by rfl) T.g_Lost rfl) pa_nil))) (pa_cons (pe_callB (call_isErr T.ek) (by rfl) T.n_isinstance (by decide +kernel) (pa_cons (pv 0) (pa_cons (pe_glob (v := .ref a.NothingToUndo) (by rfl) T.g_NothingToUndo rfl) pa_nil))) pa_nil))))))
      (pss_cons (ps_set (i := 1) sc__law_kinds.nd rfl (Or.inl rfl) (pe_op op_cat (pv 1) (pe_lstS (pa_cons (pe_callB (call_isErr T.ek) (by rfl) T.n_isinstance (by decide +kernel) (pa_cons (pv 0) (pa_cons (pe_glob (v := .ref a.NothingToRedo) (by rfl) T.g_NothingToRedo rfl) pa_nil))) (pa_cons (pe_callB (call_isErr T.ek) (by rfl) T.n_isinstance (by decide +kernel) (pa_cons (pv 0) (pa_cons (pe_glob (v := .ref a.NoTrial) (by rfl) T.g_NoTrial rfl) pa_nil))) (pa_cons (pe_callB (call_isErr T.ek) (by rfl) T.n_isinstance (by decide +kernel) (pa_cons (pv 0) (pa_cons (pe_glob (v := .ref a.BadJournal) (by rfl) T.g_BadJournal rfl) pa_nil))) pa_nil))))))
      (pss_one (ps_ret (pe_op op_cat (pv 1) (pe_lstS (pa_cons (pe_callB (call_isErr T.ek) (by rfl) T.n_isinstance (by decide +kernel) (pa_cons (pv 0) (pa_cons (pe_glob (v := .ref a.BadSay) (by rfl) T.g_BadSay rfl) pa_nil))) pa_nil))))))))))))))), ?body⟩)
  case len => obtain ⟨e, C, v, f, rfl, _⟩ := h; rfl
  case body =>
    obtain ⟨e, C, v, f, rfl, TC, he, kit, q⟩ := h
    have st := bls_stays
    have sz : ∀ {H1 H2 : Hp} {b}, Same H1 H2 → ErrAt H1 e C b → ErrAt H2 e C b := fun S h => h.same S
    refine s_set (lstP (P := Bls [f 0, f 1, f 2]) (m := 3) ?e1 (by decide) (st _) fun l1 x1 H1 S1 n1 h1 c1 p1 => ?_)
    case e1 =>
      apply evb_is rfl TC he (kit 0 (by decide))
      apply evb_is rfl TC he (kit 1 (by decide))
      apply evb_is rfl TC he (kit 2 (by decide))
      exact evb_nil
    have he1 := he.same S1
    refine s_set (catP (P := Bls [f 0, f 1, f 2, f 3, f 4, f 5]) (P1 := Bls [f 3, f 4, f 5]) (m := 3) rfl h1 p1 (st _) c1 ?e2 (st _) (by decide) bls_app (st _) fun l2 x2 H2 S2 n2 h2 c2 p2 => ?_)
    case e2 =>
      apply evb_is rfl TC he1 (kit 3 (by decide))
      apply evb_is rfl TC he1 (kit 4 (by decide))
      apply evb_is rfl TC he1 (kit 5 (by decide))
      exact evb_nil
    have he2 := he1.same S2
    refine s_set (catP (P := Bls [f 0, f 1, f 2, f 3, f 4, f 5, f 6, f 7, f 8]) (P1 := Bls [f 6, f 7, f 8]) (m := 3) rfl h2 p2 (st _) c2 ?e3 (st _) (by decide) bls_app (st _) fun l3 x3 H3 S3 n3 h3 c3 p3 => ?_)
    case e3 =>
      apply evb_is rfl TC he2 (kit 6 (by decide))
      apply evb_is rfl TC he2 (kit 7 (by decide))
      apply evb_is rfl TC he2 (kit 8 (by decide))
      exact evb_nil
    have he3 := he2.same S3
    refine s_set (catP (P := Bls [f 0, f 1, f 2, f 3, f 4, f 5, f 6, f 7, f 8, f 9, f 10, f 11]) (P1 := Bls [f 9, f 10, f 11]) (m := 3) rfl h3 p3 (st _) c3 ?e4 (st _) (by decide) bls_app (st _) fun l4 x4 H4 S4 n4 h4 c4 p4 => ?_)
    case e4 =>
      apply evb_is rfl TC he3 (kit 9 (by decide))
      apply evb_is rfl TC he3 (kit 10 (by decide))
      apply evb_is rfl TC he3 (kit 11 (by decide))
      exact evb_nil
    have he4 := he3.same S4
    refine s_set (catP (P := Bls [f 0, f 1, f 2, f 3, f 4, f 5, f 6, f 7, f 8, f 9, f 10, f 11, f 12, f 13, f 14]) (P1 := Bls [f 12, f 13, f 14]) (m := 3) rfl h4 p4 (st _) c4 ?e5 (st _) (by decide) bls_app (st _) fun l5 x5 H5 S5 n5 h5 c5 p5 => ?_)
    case e5 =>
      apply evb_is rfl TC he4 (kit 12 (by decide))
      apply evb_is rfl TC he4 (kit 13 (by decide))
      apply evb_is rfl TC he4 (kit 14 (by decide))
      exact evb_nil
    have he5 := he4.same S5
    refine s_set (catP (P := Bls [f 0, f 1, f 2, f 3, f 4, f 5, f 6, f 7, f 8, f 9, f 10, f 11, f 12, f 13, f 14, f 15, f 16, f 17]) (P1 := Bls [f 15, f 16, f 17]) (m := 3) rfl h5 p5 (st _) c5 ?e6 (st _) (by decide) bls_app (st _) fun l6 x6 H6 S6 n6 h6 c6 p6 => ?_)
    case e6 =>
      apply evb_is rfl TC he5 (kit 15 (by decide))
      apply evb_is rfl TC he5 (kit 16 (by decide))
      apply evb_is rfl TC he5 (kit 17 (by decide))
      exact evb_nil
    have he6 := he5.same S6
    refine s_set (catP (P := Bls [f 0, f 1, f 2, f 3, f 4, f 5, f 6, f 7, f 8, f 9, f 10, f 11, f 12, f 13, f 14, f 15, f 16, f 17, f 18, f 19, f 20]) (P1 := Bls [f 18, f 19, f 20]) (m := 3) rfl h6 p6 (st _) c6 ?e7 (st _) (by decide) bls_app (st _) fun l7 x7 H7 S7 n7 h7 c7 p7 => ?_)
    case e7 =>
      apply evb_is rfl TC he6 (kit 18 (by decide))
      apply evb_is rfl TC he6 (kit 19 (by decide))
      apply evb_is rfl TC he6 (kit 20 (by decide))
      exact evb_nil
    have he7 := he6.same S7
    refine s_set (catP (P := Bls [f 0, f 1, f 2, f 3, f 4, f 5, f 6, f 7, f 8, f 9, f 10, f 11, f 12, f 13, f 14, f 15, f 16, f 17, f 18, f 19, f 20, f 21, f 22, f 23]) (P1 := Bls [f 21, f 22, f 23]) (m := 3) rfl h7 p7 (st _) c7 ?e8 (st _) (by decide) bls_app (st _) fun l8 x8 H8 S8 n8 h8 c8 p8 => ?_)
    case e8 =>
      apply evb_is rfl TC he7 (kit 21 (by decide))
      apply evb_is rfl TC he7 (kit 22 (by decide))
      apply evb_is rfl TC he7 (kit 23 (by decide))
      exact evb_nil
    have he8 := he7.same S8
    refine s_set (catP (P := Bls [f 0, f 1, f 2, f 3, f 4, f 5, f 6, f 7, f 8, f 9, f 10, f 11, f 12, f 13, f 14, f 15, f 16, f 17, f 18, f 19, f 20, f 21, f 22, f 23, f 24, f 25, f 26]) (P1 := Bls [f 24, f 25, f 26]) (m := 3) rfl h8 p8 (st _) c8 ?e9 (st _) (by decide) bls_app (st _) fun l9 x9 H9 S9 n9 h9 c9 p9 => ?_)
    case e9 =>
      apply evb_is rfl TC he8 (kit 24 (by decide))
      apply evb_is rfl TC he8 (kit 25 (by decide))
      apply evb_is rfl TC he8 (kit 26 (by decide))
      exact evb_nil
    have he9 := he8.same S9
    refine s_set (catP (P := Bls [f 0, f 1, f 2, f 3, f 4, f 5, f 6, f 7, f 8, f 9, f 10, f 11, f 12, f 13, f 14, f 15, f 16, f 17, f 18, f 19, f 20, f 21, f 22, f 23, f 24, f 25, f 26, f 27, f 28, f 29]) (P1 := Bls [f 27, f 28, f 29]) (m := 3) rfl h9 p9 (st _) c9 ?e10 (st _) (by decide) bls_app (st _) fun l10 x10 H10 S10 n10 h10 c10 p10 => ?_)
    case e10 =>
      apply evb_is rfl TC he9 (kit 27 (by decide))
      apply evb_is rfl TC he9 (kit 28 (by decide))
      apply evb_is rfl TC he9 (kit 29 (by decide))
      exact evb_nil
    have he10 := he9.same S10
    refine s_ret (catP (P := Bls [f 0, f 1, f 2, f 3, f 4, f 5, f 6, f 7, f 8, f 9, f 10, f 11, f 12, f 13, f 14, f 15, f 16, f 17, f 18, f 19, f 20, f 21, f 22, f 23, f 24, f 25, f 26, f 27, f 28, f 29, f 30]) (P1 := Bls [f 30]) (m := 1) rfl h10 p10 (st _) c10 ?e11 (st _) (by decide) bls_app (st _) fun l11 x11 H11 S11 n11 h11 c11 p11 => ?_)
    case e11 =>
      apply evb_is rfl TC he10 (kit 30 (by decide))
      exact evb_nil
    have SS : Same H H10 := (((((((((S1.trans S2).trans S3).trans S4).trans S5).trans S6).trans S7).trans S8).trans S9).trans S10)
    exact q l11 H11 (SS.free n11) (SS.trans S11) (by rw [h11, p11]; rfl)
end
end My

namespace My
open PySem PySem.Spec PyProof.Rows L2 G
abbrev s__law_right : Stmt := topS 42
theorem sc__law_right : FnScope ["_law_pot_here", "_law_some", "_law_value", "_law_made", "_law_at", "_law_error", "_law_base", "_law_dot"] ["_law_pot_here"] (defScope s__law_right) := ⟨rfl, rfl, rfl, by decide +kernel, rfl, by decide +kernel, by decide +kernel⟩

abbrev s_law : Stmt := topS 43
theorem sc_law : FnScope ["_law_script", "_law_place"] ["_law_script"] (defScope s_law) := ⟨rfl, rfl, rfl, by decide +kernel, rfl, by decide +kernel, by decide +kernel⟩

local macro_rules | `(tactic| walk_at "gd") => `(tactic| exact gdB_ok (by decide +kernel))
local macro_rules | `(tactic| walk_at "ev") => `(tactic| repeat (first
  | exact eva_nil
  | apply eva_cons
  | exact evg_int (gdB_ok (by decide +kernel))
  | exact evg_str (gdB_ok (by decide +kernel))
  | exact evg_bl (gdB_ok (by decide +kernel))
  | exact evg_non (gdB_ok (by decide +kernel))
  | exact evg_neg (gdB_ok (by decide +kernel))
  | exact evg_pow ⟨by decide, by decide, by decide +kernel⟩ (gdB_ok (by decide +kernel))
  | exact evg_dnew (by assumption) (gdB_ok (by decide +kernel))
  | (apply evg_tup (G' := Gd 8 3); (case h => walk_at "ev"); (case t => assumption); (case hm => decide); (case g => exact fun ds l h => gd_tup h (Nat.le_of_eq l) (by decide)))
  | (apply evg_tup (G' := Gd 3 2); (case h => walk_at "ev"); (case t => assumption); (case hm => decide); (case g => exact fun ds l h => gd_tup h (Nat.le_of_eq l) (by decide)))
  | (apply evg_lst (G' := Gd 8 3); (case h => walk_at "ev"); (case t => assumption); (case hm => decide); (case g => exact fun ds l h => gd_lst h (Nat.le_of_eq l) (by decide)))
  | exact evg_dict1 (G' := Gd 8 3) (by assumption) (fun q H1 S => evg_int (gdB_ok (by decide +kernel))) (fun d g => gd_dict1 g (by decide +kernel) (by decide))))

def spRight : Sp := fun vs H Q _ => ∃ p, vs = [.ref p] ∧ PotAt H p 0 ∧ ∀ H', Same (wo p H) (wo p H') → Q (.bl true) H'
theorem Go.isp {p : Addr} {n : Nat} {H H' : Hp} {G : PyData → Prop} {v : V} (g : Go p n H H') (x : Is (fun b => b = p) H G v) : Is (fun b => b = p) H' G v := g.is (N := fun b => b = p) rfl x
theorem ec_all {K : PySem.W.Frag} {mg : Str → Option Value} {a : Ad} (T : Txt K mg a) : ∀ c ∈ a.cs, EC K c := by
  unfold Ad.cs
  simp only [List.forall_mem_cons]
  exact ⟨T.c_BadRatio, T.c_BadText, T.c_BadPoint, T.c_BadNumber, T.c_Off, T.c_BadChart, T.c_NoMark, T.c_BadLine, T.c_Needed, T.c_AtMark, T.c_BadNames, T.c_BadSides, T.c_NoCell, T.c_BadCells, T.c_BadLand, T.c_BadRound, T.c_OverMark, T.c_OnLine, T.c_BadLog, T.c_BadScript, T.c_NoLap, T.c_BadAsk, T.c_Unlike, T.c_BadOffers, T.c_BadAsks, T.c_Lost, T.c_NothingToUndo, T.c_NothingToRedo, T.c_NoTrial, T.c_BadJournal, T.c_BadSay, fun _ h => nomatch h⟩
theorem iteS {c A B : Prop} [Decidable c] (hc : c) (h : A) : if decide c = true then A else B := by rw [decide_eq_true hc]; exact iteT h
theorem is_more {N : Addr → Prop} {H : Hp} {G : PyData → Prop} {v : V} {q : Addr} (hq : H q = none) (x : Is N H G v) : Is (fun b => N b ∨ b = q) H G v := by
  obtain ⟨d, a, g⟩ := x
  refine ⟨d, a.same fun b o e => ?_, g⟩
  obtain ⟨n, e2⟩ := mask_some e
  rw [mask_out (by rintro (z | z); exact n z; rw [z, hq] at e2; cases e2)]
  exact e2
theorem is_over {N : Addr → Prop} {H : Hp} {G : PyData → Prop} {v : V} {q : Addr} {o : HO} (x : Is (fun b => N b ∨ b = q) H G v) : Is N (upd H q o) G v := by
  obtain ⟨d, a, g⟩ := x
  refine ⟨d, a.same fun b u e => ?_, g⟩
  obtain ⟨n, e2⟩ := mask_some e
  rw [mask_out fun z => n (.inl z), upd_ne fun z => n (.inr z)]
  exact e2
theorem is_dict1 {N : Addr → Prop} {H : Hp} {G G' : PyData → Prop} {v : V} {q : Addr} {x : Str} (hq : ¬ N q) (h : Is (fun b => N b ∨ b = q) H G' v) (g : ∀ d, G' d → G (.dict [(.str x, d)])) : Is N (upd H q (.dK [(Sum.inr x, v)])) G (.ref q) := by
  obtain ⟨d, a, gd⟩ := is_over (o := .dK [(Sum.inr x, v)]) h
  exact ⟨_, .dct (kvs := [(Sum.inr x, v)]) (ds := [d]) (by rw [mask_out hq]; exact upd_same) (.cons a .nil), g d gd⟩
theorem dp_bools {K : PySem.W.Frag} {H : Hp} : ∀ bs : List Bool, DpAll K H (bs.map V.bl) (bs.map PyData.bool)
  | [] => .nil
  | b :: bs => .cons (.bl b) (dp_bools bs)
theorem bools_shaped : ∀ bs : List Bool, SeqAt.shaped (.list (bs.map PyData.bool)) = true := fun bs => by
  have h1 : ∀ l : List Bool, PyData.canLayAll0 (l.map PyData.bool) = true ∧ PyData.depthAll (l.map PyData.bool) = 0 := by
    intro l
    induction l with
    | nil => simp [PyData.canLayAll0, PyData.depthAll]
    | cons b r ih => simp [PyData.canLayAll0, PyData.depthAll, PyData.canLay0, PyData.depth, ih.1, ih.2]
  show (PyData.canLay0 (.list (bs.map PyData.bool)) && decide (PyData.depth (.list (bs.map PyData.bool)) ≤ 64)) = true
  simp [PyData.canLay0, PyData.depth, (h1 bs).1, (h1 bs).2]
theorem given_all (n : Nat) (v : Nat → V) : Evl.given n (fun _ => true) v = (List.range n).map v := by
  unfold Evl.given
  rw [List.filter_eq_self.mpr (fun _ _ => rfl)]
section
variable {P : Program} {w : World} {K : PySem.W.Frag} {mg : Str → Option Value} {base : Heap} {a : Ad}
theorem ok__law_right {fd : FuncData} (F : Fun K "_law_right" "_law_right" s__law_right a._law_right fd) (T : Txt K mg a)
    {fd__law_kinds : FuncData} (G__law_kinds : Fn P w K mg base CX0 1 a._law_kinds fd__law_kinds ["_law_error"] (spKinds K a)) (b__law_kinds : Binds K fd__law_kinds ["_law_error"] [])
    {fd_init : FuncData} (G_init : FnOk P w K mg base CX0 1 a.init fd_init ["self", "value"] (spErrInit K)) (b_init : Binds K fd_init ["self", "value"] [])
    {fd__law_all : FuncData} (G__law_all : Fn P w K mg base CX0 3 a._law_all fd__law_all ["_law_value"] (spAll a)) (b__law_all : Binds K fd__law_all ["_law_value"] [])
    {fd__law_of : FuncData} (G__law_of : Fn P w K mg base CX0 2 a._law_of fd__law_of ["_law_pot_here", "_law_some"] spOf) (b__law_of : Binds K fd__law_of ["_law_pot_here", "_law_some"] [])
    {fd__law_odd : FuncData} (G__law_odd : Fn P w K mg base CX0 3 a._law_odd fd__law_odd ["_law_pot_here"] spOdd) (b__law_odd : Binds K fd__law_odd ["_law_pot_here"] [])
    {fd__law_bent : FuncData} (G__law_bent : Fn P w K mg base CX0 6 a._law_bent fd__law_bent ["_law_pot_here", "_law_value"] (spBent 3)) (b__law_bent : Binds K fd__law_bent ["_law_pot_here", "_law_value"] []) :
    Fn P w K mg base CX0 7 a._law_right fd ["_law_pot_here"] spRight := by
  refine ok F sc__law_right (fun vs H Q E h => ?len) (fun cdv A outer s H vs Q E hq hr h => ⟨_,
      (pss_cons (ps_set (i := 1) sc__law_right.nd rfl (Or.inl rfl) (pe_lstS (pa_cons (pe_fn G__law_odd hq (hr.mono (by omega)) (by rfl) T.g__law_odd T.k__law_odd b__law_odd .nil pass0 (pa_cons (pv 0) pa_nil)) (pa_cons (pe_fn G__law_bent hq (hr.mono (by omega)) (by rfl) T.g__law_bent T.k__law_bent b__law_bent .nil pass0 (pa_cons (pv 0) (pa_cons (pe_tup (pa_cons (pe_tup (pa_cons pe_str (pa_cons pe_int pa_nil))) (pa_cons (pe_tup (pa_cons pe_int (pa_cons (pe_un un_neg pe_int) (pa_cons pe_int pa_nil)))) pa_nil))) pa_nil))) (pa_cons (pe_lstS (pa_cons (pe_fn G__law_odd hq (hr.mono (by omega)) (by rfl) T.g__law_odd T.k__law_odd b__law_odd .nil pass0 (pa_cons (pv 0) pa_nil)) pa_nil)) (pa_cons (pe_disp (pps_cons pe_str (pe_fn G__law_odd hq (hr.mono (by omega)) (by rfl) T.g__law_odd T.k__law_odd b__law_odd .nil pass0 (pa_cons (pv 0) pa_nil)) pps_nil) (by rfl) (by rfl) (fun z => by cases z) (by decide)) pa_nil))))))
      (pss_cons (ps_set (i := 2) sc__law_right.nd rfl (Or.inl rfl) (pe_fn G__law_of hq (hr.mono (by omega)) (by rfl) T.g__law_of T.k__law_of b__law_of .nil pass0 (pa_cons (pv 0) (pa_cons (pv 1) pa_nil))))
      (pss_cons (ps_set (i := 3) sc__law_right.nd rfl (Or.inl rfl) (pe_fn G__law_all hq (hr.mono (by omega)) (by rfl) T.g__law_all T.k__law_all b__law_all .nil pass0 (pa_cons (pv 2) pa_nil)))
      (pss_cons (ps_for PassesOwn.never rfl (pi_enum (by rfl) T.n_enumerate (pa_cons (pv 3) pa_nil)) (pg_tup rfl (pgs_cons (pg_name (i := 4) sc__law_right.nd rfl (Or.inr rfl)) (pgs_cons (pg_name (i := 5) sc__law_right.nd rfl (Or.inl rfl)) pgs_nil))) (pss_cons (ps_if (PW.pt (pw_or (pt_not (pt_val (pe_callB (call_isErr T.ek) (by rfl) T.n_isinstance (by decide +kernel) (pa_cons (pv 5) (pa_cons (pe_glob (v := .ref a.AboutError) (by rfl) T.g_AboutError rfl) pa_nil))))) (pw_or (pt_not (pt_val (pe_callB (call_isErr T.ek) (by rfl) T.n_isinstance (by decide +kernel) (pa_cons (pv 5) (pa_cons (pe_bltn (v := .ty "ValueError") (u := .type "ValueError") (by rfl) T.n_ValueError (by decide +kernel) rfl) pa_nil))))) (pw_or1 (pt_cmpR op_ne (pe_callB (call_reprD hq hr.units) (by rfl) T.n_repr (by decide +kernel) (pa_cons (pe_value (pv 5)) pa_nil)) (pe_callB (call_reprD hq hr.units) (by rfl) T.n_repr (by decide +kernel) (pa_cons (pv 2) pa_nil)) (nomark _)))))) (pss_one (ps_ret pe_bl)) pss_nil)
      (pss_one (ps_if (pt_cmpR (op_neD hr.units) (pe_fn G__law_kinds hq (hr.mono (by omega)) (by rfl) T.g__law_kinds T.k__law_kinds b__law_kinds .nil pass0 (pa_cons (pv 5) pa_nil)) (pe_lc (own := [("_law_dot", 7)]) (g := gName 7) (tt := tYes) rfl sc__law_right.nd (pi_range1 (by rfl) T.n_range (pa_cons (pe_callB call_len_seq (by rfl) T.n_len (by decide +kernel) (pa_cons (pv 3) pa_nil)) pa_nil)) (blkOk_by (own := [("_law_dot", 7)]) (N := ["_law_pot_here", "_law_some", "_law_value", "_law_made", "_law_at", "_law_error", "_law_base", "_law_dot"]) (sc := defScope s__law_right) (by decide +kernel)) (fun _ _ _ _ _ => pg_name (i := 7) sc__law_right.nd rfl (Or.inl rfl)) (fun _ _ _ _ _ => pts_nil) (fun _ _ _ _ _ => (pe_cmpR op_eq (pv 4) (pv 7) (nomark _)))) (nomark _)) (pss_one (ps_ret pe_bl)) pss_nil))))
      (pss_cons (ps_set (i := 6) sc__law_right.nd rfl (Or.inl rfl) (pe_err (T.c_AboutError) (T.i_AboutError) T.tI G_init (hr.mono (by omega)) b_init pass0 (by rfl) T.g_AboutError (pa_cons (pv 2) pa_nil)))
      (pss_one (ps_ret (pe_and (pe_cmpR op_eq (pe_callB (call_reprD hq hr.units) (by rfl) T.n_repr (by decide +kernel) (pa_cons (pe_value (pv 6)) pa_nil)) (pe_callB (call_reprD hq hr.units) (by rfl) T.n_repr (by decide +kernel) (pa_cons (pv 2) pa_nil)) (nomark _)) (pe_and (pe_callB (call_isErr T.ek) (by rfl) T.n_isinstance (by decide +kernel) (pa_cons (pv 6) (pa_cons (pe_bltn (v := .ty "ValueError") (u := .type "ValueError") (by rfl) T.n_ValueError (by decide +kernel) rfl) pa_nil))) (pe_one (pe_not (pe_callB (cr_any rfl) (by rfl) T.n_any (by decide +kernel) (pa_cons (pe_fn G__law_kinds hq (hr.mono (by omega)) (by rfl) T.g__law_kinds T.k__law_kinds b__law_kinds .nil pass0 (pa_cons (pv 6) pa_nil)) pa_nil))))))))))))), ?body⟩)
  case len => obtain ⟨p, rfl, _⟩ := h; rfl
  case body =>
    obtain ⟨p, rfl, pot, q⟩ := h
    have T2 := kindsB_ok T.kinds
    have t : Tr (fun b => b = p) H := fun b e => by rw [e]; exact pot.has
    -- an odd value
    refine ⟨_, rfl, p, 0, rfl, pot, by decide, fun v1 H1 i1 g1 => ?_⟩
    have is1 := i1 _ t
    have t1 : Tr (fun b => b = p) H1 := fun b e => by rw [e]; exact g1.pot.has
    -- a bent one
    have gB : ∀ {k m : Nat}, 1 ≤ m ∧ m ≤ 3 → ∀ ds : List PyData, ds.length = m → (∀ d ∈ ds, Bt k d) → Bt (k + 1) (.tuple ds) := fun hm ds l h => .inr ⟨ds, rfl, by omega, by omega, h⟩
    refine ⟨_, rfl, ?_⟩
    refine (evg_tup (G := Bt 2) (G' := Bt 1) (m := 2) t1 (eva_cons (evg_tup (G := Bt 1) (G' := Bt 0) (m := 2) t1 (eva_cons (evg_str (.inl rfl)) (eva_cons (evg_int (.inr ⟨_, rfl, by decide, by decide⟩)) eva_nil)) (by decide) (gB (by decide)))
      (eva_cons (evg_tup (G := Bt 1) (G' := Bt 0) (m := 3) t1 (eva_cons (evg_int (.inr ⟨_, rfl, by decide, by decide⟩)) (eva_cons (evg_neg (.inr ⟨_, rfl, by decide, by decide⟩)) (eva_cons (evg_int (.inr ⟨_, rfl, by decide, by decide⟩)) eva_nil))) (by decide) (gB (by decide))) eva_nil)) (by decide) (gB (by decide)))
      H1 (Same.refl _) _ fun vb H2 S2 ib => ?_
    obtain ⟨db, hdb, bdb⟩ := ib
    refine ⟨p, vb, db, 1, rfl, g1.pot.same S2, by decide, by decide, hdb, bdb, fun u2 m2 H3 is2 g3 hm2 => ?_⟩
    have hm2 : m2 ≤ 7 := hm2
    -- a list of an odd one
    refine ⟨_, rfl, p, m2, rfl, g3.pot, by omega, fun v3 H4 i3 g4 => ⟨(by show 1 ≤ sizeLine; decide), fun p4 h4 s4 => ?_⟩⟩
    have t3 : Tr (fun b => b = p) H3 := fun b e => by rw [e]; exact g3.pot.has
    have is3 := i3 _ t3
    have n4 : p4 ≠ p := fun e => g4.pot.has (by rw [← e]; exact h4)
    -- a dict of one
    intro p5 h5
    have pot5 : PotAt (upd H4 p4 (.lst [v3])) p (m2 + 1) := g4.pot.same (same_new h4)
    have n5 : p5 ≠ p := fun e => pot5.has (by rw [← e]; exact h5)
    have pot6 := pot5.same (same_new (o := .dK []) h5)
    refine ⟨_, rfl, p, m2 + 1, rfl, pot6, by omega, fun v4 H6 i4 g6 => ⟨g6.at upd_same n5, [(Sum.inr "a", v4)], rfl, (by show 1 ≤ 15; decide), ⟨(by show 4 ≤ sizeLine; decide), fun l hl sl => ?_⟩⟩⟩
    -- what all of them are
    let G5 : PyData → Prop := Gd 6000 20
    have all5 : ∀ {x : V}, Is (fun b => b = p) (upd H4 p4 (.lst [v3])) G5 x → Is (fun b => b = p) (upd H6 p5 (.dK [(Sum.inr "a", v4)])) G5 x := fun {x} i =>
      is_over (g6.is (N := fun b => b = p ∨ b = p5) (.inl rfl) ((is_more h5 i).same (same_new h5)))
    have a1 : Is (fun b => b = p) (upd H6 p5 (.dK [(Sum.inr "a", v4)])) G5 v1 :=
      all5 (((g4.isp (g3.isp (is1.same S2))).same (same_new h4)).imp fun d g => Gd.mono g (by decide) (by decide))
    have a2 : Is (fun b => b = p) (upd H6 p5 (.dK [(Sum.inr "a", v4)])) G5 u2 :=
      all5 (((g4.isp is2).same (same_new h4)).imp fun d g => Gd.mono g (by decide) (by decide))
    have a3 : Is (fun b => b = p) (upd H6 p5 (.dK [(Sum.inr "a", v4)])) G5 (.ref p4) :=
      all5 (is_lst (G' := Gd 60 4) n4 upd_same s4 (fun x hx => by obtain rfl : x = v3 := by simpa using hx
                                                                  exact is3.same (same_new h4)) fun ds e h => (gd_lst (m := 1) (N := 61) h (Nat.le_of_eq e) (by decide)).mono (by decide) (by decide))
    have a4 : Is (fun b => b = p) (upd H6 p5 (.dK [(Sum.inr "a", v4)])) G5 (.ref p5) := by
      have tt : Tr (fun b => b = p ∨ b = p5) (upd (upd H4 p4 (.lst [v3])) p5 (.dK [])) := by
        rintro b (e | e)
        · rw [e]; exact pot6.has
        · rw [e, upd_same]; simp
      exact is_dict1 (G' := Gd 60 4) n5 (i4 _ tt) fun d g => (gd_dict1 (N := 70) g (by decide +kernel) (by decide)).mono (by decide) (by decide)
    have pot7 : PotAt (upd H6 p5 (.dK [(Sum.inr "a", v4)])) p (m2 + 2) := by
      obtain ⟨x, y, z, e, r⟩ := g6.pot
      exact ⟨x, y, z, by rw [upd_ne n5.symm]; exact e, r⟩
    -- one of them
    refine ⟨_, rfl, _, rfl, ?_⟩
    refine of_done (G := G5) (n := m2 + 2) (m := 4) pot7 (same_new hl) hl upd_same rfl (by decide) (by omega) ?_ fun x H9 ix g9 => ?_
    · intro x hx
      have : x = v1 ∨ x = u2 ∨ x = .ref p4 ∨ x = .ref p5 := by simpa using hx
      rcases this with rfl | rfl | rfl | rfl
      · exact a1.same (same_new hl)
      · exact a2.same (same_new hl)
      · exact a3.same (same_new hl)
      · exact a4.same (same_new hl)
    obtain ⟨dx, hdx, gdx⟩ := ix
    have hdx9 : Da H9 x dx := hdx.same (mask_le _ _)
    -- the pot's way
    have k57 : Same (wo p (upd H4 p4 (.lst [v3]))) (wo p (upd H6 p5 (.dK [(Sum.inr "a", v4)]))) := fun b o e => by
      obtain ⟨nb, e2⟩ := mask_some e
      have n5b : b ≠ p5 := ne_of_none e2 h5
      rw [wo_ne nb, upd_ne n5b]
      exact g6.at (by rw [upd_ne n5b]; exact e2) nb
    have keep9 : Same (wo p H) (wo p H9) :=
      ((((g1.keep.trans (mask_mono S2)).trans g3.keep).trans g4.keep).trans (mask_mono (same_new h4))).trans (k57.trans g9.keep)
    -- all errors
    refine ⟨_, rfl, x, rfl, fun lm xs H10 nm S10 hm10 cm em => ?_⟩
    have hdx10 : Da H10 x dx := hdx9.same S10
    have lcs : a.cs.length = 31 := rfl
    -- the walk over them
    refine ⟨_, rfl, lm, xs, rfl, SqL.of hm10, for_it (walk_enum (xs := xs)) (fun i σ H' => ∃ s4 s5, σ = [some (.ref p), some (.ref l), some x, some (.ref lm), s4, s5, none, none] ∧ Same H10 H') ⟨none, none, rfl, Same.refl _⟩ ?_ ?_ ?_⟩
    · rintro i σ H' _ ⟨s4, s5, _, S⟩
      exact SqL.of (S _ _ hm10)
    · rintro i y σ H' H'' hi ⟨s4, s5, rfl, S⟩ ⟨T0, y1, y2, rfl, nT, rfl, e1, e2⟩
      obtain rfl : V.int (i : Nat) = y1 := Option.some.inj e1
      obtain ⟨e, rfl, he⟩ := ers_get em e2
      have SS : Same H10 (upd H' T0 (.tup [.int (i : Nat), .ref e])) := S.trans (same_new nT)
      have i31 : i < 31 := by omega
      have hC : a.cs.getD i 0 ∈ a.cs := by
        rw [List.getD_eq_getElem?_getD, List.getElem?_eq_getElem (by omega)]
        exact List.getElem_mem _
      have eC : EC K (a.cs.getD i 0) := ec_all T _ hC
      refine ⟨T0, _, rfl, SqT.of upd_same, rfl, _, _, rfl, _, _, rfl, rfl, ?_⟩
      refine ⟨_, rfl, e, _, x, _, _, true, rfl, .own _, eC, he.same SS, T2.up _ hC, _, rfl, iteF ?_⟩
      refine ⟨_, rfl, e, _, x, _, _, true, rfl, .ty _, eC, he.same SS, T2.ve _ hC, _, rfl, iteF ?_⟩
      refine ⟨_, rfl, e, _, x, rfl, eC, he.same SS, x, dx, _, _, rfl, hdx10.same SS, gdx, ⟨by decide, by decide⟩, _, rfl, x, dx, _, _, rfl, hdx10.same SS, gdx, ⟨by decide, by decide⟩, rfl, _, rfl, iteNS rfl ?_⟩
      -- its kinds
      refine ⟨_, rfl, e, _, x, fun k => decide (i = k), rfl, eC, he.same SS, fun k hk => T2.two i k (by omega) (by omega), fun lk Hk nk Sk hk => ?_⟩
      have hmk : Hk lm = some (.lst xs) := Sk _ _ (SS _ _ hm10)
      refine Evl.el_lcR1 (n := (xs.length : Int)) (fun _ => true) (fun k => V.bl (decide (V.int (i : Nat) = V.int (k : Nat)))) (fun H1 E1 Q q => ⟨_, rfl, lm, xs, rfl, .inl (SqL.of (E1 _ _ hmk)), q H1 (Evl.Ex.refl _)⟩) (by omega) (fun _ => rfl)
        (fun k H1 _ _ => fun H2 _ Q q => q H2 (Evl.Ex.refl _)) (fun k H1 _ _ _ => Evl.ev_op (Evl.ev_var rfl) (Evl.ev_var rfl) (Evl.rv_eq rfl)) Hk (Evl.Ex.refl _) _ fun lq Hq nq Eq hq' => ?_
      have hq2 : Hq lq = some (.lst (((List.range 31).map fun k => decide (i = k)).map V.bl)) := by
        rw [hq', given_all, List.map_map]
        have e31 : ((xs.length : Int)).toNat = 31 := by omega
        rw [e31]
        refine congrArg (fun z => some (HO.lst z)) (List.map_congr_left fun k _ => ?_)
        show V.bl (decide (V.int (i : Int) = V.int (k : Int))) = V.bl (decide (i = k))
        congr 1
        by_cases hik : i = k
        · subst hik; simp
        · have h2 : ¬ (V.int (i : Int) = V.int (k : Int)) := fun z => hik (by injection z with z; omega)
          rw [decide_eq_false hik, decide_eq_false h2]
      refine ⟨.list (((List.range 31).map fun k => decide (i = k)).map .bool), .list (((List.range 31).map fun k => decide (i = k)).map .bool), .lst (SqL.of (Eq _ _ hk)) (dp_bools _), .lst (SqL.of hq2) (dp_bools _), bools_shaped _, bools_shaped _, _, rfl, ?_⟩
      rw [SeqAt.eqv_refl _ (SeqAt.canLay_of_shaped (bools_shaped _))]
      refine iteF ⟨_, _, rfl, (SS.trans Sk).trans Eq⟩
    · rintro σ H' ⟨s4, s5, rfl, S⟩
      -- the error above all others
      refine ⟨_, rfl, x, rfl, fun e Hb nb Sb eb => ?_⟩
      have SS : Same H10 Hb := S.trans Sb
      refine ⟨_, rfl, e, _, x, rfl, T.c_AboutError, eb, x, dx, _, _, rfl, hdx10.same SS, gdx, ⟨by decide, by decide⟩, _, rfl, x, dx, _, _, rfl, hdx10.same SS, gdx, ⟨by decide, by decide⟩, rfl, _, rfl, iteS rfl ?_⟩
      refine ⟨_, rfl, e, _, x, _, _, true, rfl, .ty _, T.c_AboutError, eb, T2.bve, _, rfl, iteT ?_⟩
      refine ⟨_, rfl, e, _, x, fun _ => false, rfl, T.c_AboutError, eb, fun k hk => T2.low _ ?_, fun lk Hk nk Sk hk => ?_⟩
      · rw [List.getD_eq_getElem?_getD, List.getElem?_eq_getElem (by omega)]
        exact List.getElem_mem _
      refine ⟨lk, _, rfl, SqL.of hk, _, rfl, ?_⟩
      refine q Hk (keep9.trans (mask_mono ((S10.trans SS).trans Sk)))
end
end My

namespace My
open PySem PySem.Spec PyProof.Rows L2 G
def spLaw (K : PySem.W.Frag) : Sp := fun vs H Q _ => ∃ (s : Addr) (ns : List Int), vs = [.ref s] ∧ SqL K H s (ns.map V.int) ∧ ns.length ≤ 63 ∧ ∀ H', Q (.bl true) H'
section
variable {P : Program} {w : World} {K : PySem.W.Frag} {mg : Str → Option Value} {base : Heap} {a : Ad}
theorem ok_law {fd : FuncData} (F : Fun K "law" "law" s_law a.law fd) (T : Txt K mg a)
    {fd__law_places : FuncData} (G__law_places : Fn P w K mg base CX0 1 a._law_places fd__law_places ["_law_script", "_law_most"] (spPlaces K)) (b__law_places : Binds K fd__law_places ["_law_script", "_law_most"] [])
    {fd__law_right : FuncData} (G__law_right : Fn P w K mg base CX0 7 a._law_right fd__law_right ["_law_pot_here"] spRight) (b__law_right : Binds K fd__law_right ["_law_pot_here"] [])
    {fd__law_pot : FuncData} (G__law_pot : Fn P w K mg base CX0 1 a._law_pot fd__law_pot ["_law_script", "_law_k"] (spPot K)) (b__law_pot : Binds K fd__law_pot ["_law_script", "_law_k"] []) :
    Fn P w K mg base CX0 8 a.law fd ["_law_script"] (spLaw K) := by
  refine ok F sc_law (fun vs H Q E h => ?len) (fun cdv A outer s H vs Q E hq hr h => ⟨_,
      (pss_one (ps_ret (pe_callB (cr_all rfl) (by rfl) T.n_all (by decide +kernel) (pa_cons (pe_lc (own := [("_law_place", 1)]) (g := gName 1) (tt := tYes) rfl sc_law.nd (pi_list (pe_fn G__law_places hq (hr.mono (by omega)) (by rfl) T.g__law_places T.k__law_places b__law_places .nil pass0 (pa_cons (pv 0) (pa_cons pe_int pa_nil)))) (blkOk_by (own := [("_law_place", 1)]) (N := ["_law_script", "_law_place"]) (sc := defScope s_law) (by decide +kernel)) (fun _ _ _ _ _ => pg_name (i := 1) sc_law.nd rfl (Or.inl rfl)) (fun _ _ _ _ _ => pts_nil) (fun _ _ _ _ _ => (pe_fn G__law_right hq (hr.mono (by omega)) (by rfl) T.g__law_right T.k__law_right b__law_right .nil pass0 (pa_cons (pe_fn G__law_pot hq (hr.mono (by omega)) (by rfl) T.g__law_pot T.k__law_pot b__law_pot .nil pass0 (pa_cons (pv 0) (pa_cons (pv 1) pa_nil))) pa_nil)))) pa_nil)))), ?body⟩)
  case len => obtain ⟨s, ns, rfl, _⟩ := h; rfl
  case body =>
    obtain ⟨s, ns, rfl, hs, hl, q⟩ := h
    refine ⟨_, rfl, s, ns, 4, rfl, hs, hl, by decide, by decide, fun l n H1 nl S1 hn hl1 => ⟨l, rfl, ⟨_, SqL.of hl1⟩, fun D hD => ?_⟩⟩
    refine lc_list (K := K) (a := l) (xs := rgV 0 n) (fun i H' => Same H1 H' ∧ H' D = some (.lst ((List.replicate i true).map V.bl)) ∧ i ≤ 10) ⟨same_new hD, upd_same, by decide⟩ (fun i H' _ ⟨S, _⟩ => SqL.of (S _ _ hl1)) ?_ ?_
    · rintro i x H' hi ⟨S, hd, i10⟩
      obtain ⟨hi1, hi2⟩ := List.getElem?_eq_some_iff.mp hi
      have ln : (rgV 0 n).length = n := by rw [rgV_length]; omega
      have hin : i < n := by omega
      obtain rfl : V.int (0 + (i : Nat)) = x := by
        have e := hi
        unfold rgV at e
        rw [List.getElem?_map, List.getElem?_range (by omega)] at e
        exact Option.some.inj e
      refine ⟨rfl, ⟨_, rfl, _, rfl, s, ns, 0 + (i : Nat), rfl, (S1.trans S).seq hs, hl, by omega, by omega, fun p H2 np S2 pot => ?_⟩⟩
      refine ⟨p, rfl, pot, fun H3 k3 => ?_⟩
      have S3 : Same H' H3 := fun b o e => by
        have nb : b ≠ p := ne_of_none e np
        exact wo_le p H3 _ _ (k3 b o (by rw [wo_ne nb]; exact S2 _ _ e))
      have nD : ∀ b o, H1 b = some o → b ≠ D := fun b o e => ne_of_none e hD
      refine ⟨_, S3 _ _ hd, by rw [List.length_map, List.length_replicate, sizeLine_eq]; omega, fun b o e => ?_, ?_, ?_⟩
      · rw [upd_ne (nD b o e)]; exact S3 _ _ (S _ _ e)
      · rw [upd_same, List.replicate_succ', List.map_append]; rfl
      · omega
    · rintro H' ⟨S, hd, _⟩
      refine ⟨D, _, rfl, SqL.of hd, ?_⟩
      have e : (List.replicate (rgV 0 n).length true).all id = true := by
        rw [List.all_eq_true]
        intro b hb
        obtain rfl := (List.mem_replicate.mp hb).2
        rfl
      rw [e]
      exact q _
end
theorem law_told : ∀ (K : PySem.W.Frag) (H : Hp) (a : Addr) (ns : List Int), ns.length ≤ 63 → Only H → SqL K H a (ns.map V.int) → spLaw K [.ref a] H (fun v _ => v = .bl true) fun _ _ _ => False :=
  fun _ _ a ns hl _ hs => ⟨a, ns, rfl, hs, hl, fun _ => rfl⟩
theorem all_mk {P : Program} {w : World} {K : PySem.W.Frag} {h : Heap} {mg : Str → Option Value} {fa : Addr} (X : K.In h) (G : h.Ns mainGlobals mg) (hfa : mg "law" = some (.ref fa))
    {C_AboutError C_BadRatio C_BadText C_BadPoint C_BadNumber C_Off C_BadChart C_NoMark C_BadLine C_Needed C_AtMark C_BadNames C_BadSides C_NoCell C_BadCells C_BadLand C_BadRound C_OverMark C_OnLine C_BadLog C_BadScript C_NoLap C_BadAsk C_Unlike C_BadOffers C_BadAsks C_Lost C_NothingToUndo C_NothingToRedo C_NoTrial C_BadJournal C_BadSay f_init : Addr}
    {nm_AboutError q_AboutError : Str} {N_AboutError : Addr} {bs_AboutError : List Value} {sn_AboutError : List Str} {sub_AboutError : List Value} {ab_AboutError : Bool} {col_AboutError : Option Bool} {dd_AboutError : Option Addr} {m0_AboutError m1_AboutError m2_AboutError m3_AboutError m5_AboutError : Option Value}
    {nm_BadRatio q_BadRatio : Str} {N_BadRatio : Addr} {bs_BadRatio : List Value} {sn_BadRatio : List Str} {sub_BadRatio : List Value} {ab_BadRatio : Bool} {col_BadRatio : Option Bool} {dd_BadRatio : Option Addr} {m0_BadRatio m1_BadRatio m2_BadRatio m3_BadRatio m5_BadRatio : Option Value}
    {nm_BadText q_BadText : Str} {N_BadText : Addr} {bs_BadText : List Value} {sn_BadText : List Str} {sub_BadText : List Value} {ab_BadText : Bool} {col_BadText : Option Bool} {dd_BadText : Option Addr} {m0_BadText m1_BadText m2_BadText m3_BadText m5_BadText : Option Value}
    {nm_BadPoint q_BadPoint : Str} {N_BadPoint : Addr} {bs_BadPoint : List Value} {sn_BadPoint : List Str} {sub_BadPoint : List Value} {ab_BadPoint : Bool} {col_BadPoint : Option Bool} {dd_BadPoint : Option Addr} {m0_BadPoint m1_BadPoint m2_BadPoint m3_BadPoint m5_BadPoint : Option Value}
    {nm_BadNumber q_BadNumber : Str} {N_BadNumber : Addr} {bs_BadNumber : List Value} {sn_BadNumber : List Str} {sub_BadNumber : List Value} {ab_BadNumber : Bool} {col_BadNumber : Option Bool} {dd_BadNumber : Option Addr} {m0_BadNumber m1_BadNumber m2_BadNumber m3_BadNumber m5_BadNumber : Option Value}
    {nm_Off q_Off : Str} {N_Off : Addr} {bs_Off : List Value} {sn_Off : List Str} {sub_Off : List Value} {ab_Off : Bool} {col_Off : Option Bool} {dd_Off : Option Addr} {m0_Off m1_Off m2_Off m3_Off m5_Off : Option Value}
    {nm_BadChart q_BadChart : Str} {N_BadChart : Addr} {bs_BadChart : List Value} {sn_BadChart : List Str} {sub_BadChart : List Value} {ab_BadChart : Bool} {col_BadChart : Option Bool} {dd_BadChart : Option Addr} {m0_BadChart m1_BadChart m2_BadChart m3_BadChart m5_BadChart : Option Value}
    {nm_NoMark q_NoMark : Str} {N_NoMark : Addr} {bs_NoMark : List Value} {sn_NoMark : List Str} {sub_NoMark : List Value} {ab_NoMark : Bool} {col_NoMark : Option Bool} {dd_NoMark : Option Addr} {m0_NoMark m1_NoMark m2_NoMark m3_NoMark m5_NoMark : Option Value}
    {nm_BadLine q_BadLine : Str} {N_BadLine : Addr} {bs_BadLine : List Value} {sn_BadLine : List Str} {sub_BadLine : List Value} {ab_BadLine : Bool} {col_BadLine : Option Bool} {dd_BadLine : Option Addr} {m0_BadLine m1_BadLine m2_BadLine m3_BadLine m5_BadLine : Option Value}
    {nm_Needed q_Needed : Str} {N_Needed : Addr} {bs_Needed : List Value} {sn_Needed : List Str} {sub_Needed : List Value} {ab_Needed : Bool} {col_Needed : Option Bool} {dd_Needed : Option Addr} {m0_Needed m1_Needed m2_Needed m3_Needed m5_Needed : Option Value}
    {nm_AtMark q_AtMark : Str} {N_AtMark : Addr} {bs_AtMark : List Value} {sn_AtMark : List Str} {sub_AtMark : List Value} {ab_AtMark : Bool} {col_AtMark : Option Bool} {dd_AtMark : Option Addr} {m0_AtMark m1_AtMark m2_AtMark m3_AtMark m5_AtMark : Option Value}
    {nm_BadNames q_BadNames : Str} {N_BadNames : Addr} {bs_BadNames : List Value} {sn_BadNames : List Str} {sub_BadNames : List Value} {ab_BadNames : Bool} {col_BadNames : Option Bool} {dd_BadNames : Option Addr} {m0_BadNames m1_BadNames m2_BadNames m3_BadNames m5_BadNames : Option Value}
    {nm_BadSides q_BadSides : Str} {N_BadSides : Addr} {bs_BadSides : List Value} {sn_BadSides : List Str} {sub_BadSides : List Value} {ab_BadSides : Bool} {col_BadSides : Option Bool} {dd_BadSides : Option Addr} {m0_BadSides m1_BadSides m2_BadSides m3_BadSides m5_BadSides : Option Value}
    {nm_NoCell q_NoCell : Str} {N_NoCell : Addr} {bs_NoCell : List Value} {sn_NoCell : List Str} {sub_NoCell : List Value} {ab_NoCell : Bool} {col_NoCell : Option Bool} {dd_NoCell : Option Addr} {m0_NoCell m1_NoCell m2_NoCell m3_NoCell m5_NoCell : Option Value}
    {nm_BadCells q_BadCells : Str} {N_BadCells : Addr} {bs_BadCells : List Value} {sn_BadCells : List Str} {sub_BadCells : List Value} {ab_BadCells : Bool} {col_BadCells : Option Bool} {dd_BadCells : Option Addr} {m0_BadCells m1_BadCells m2_BadCells m3_BadCells m5_BadCells : Option Value}
    {nm_BadLand q_BadLand : Str} {N_BadLand : Addr} {bs_BadLand : List Value} {sn_BadLand : List Str} {sub_BadLand : List Value} {ab_BadLand : Bool} {col_BadLand : Option Bool} {dd_BadLand : Option Addr} {m0_BadLand m1_BadLand m2_BadLand m3_BadLand m5_BadLand : Option Value}
    {nm_BadRound q_BadRound : Str} {N_BadRound : Addr} {bs_BadRound : List Value} {sn_BadRound : List Str} {sub_BadRound : List Value} {ab_BadRound : Bool} {col_BadRound : Option Bool} {dd_BadRound : Option Addr} {m0_BadRound m1_BadRound m2_BadRound m3_BadRound m5_BadRound : Option Value}
    {nm_OverMark q_OverMark : Str} {N_OverMark : Addr} {bs_OverMark : List Value} {sn_OverMark : List Str} {sub_OverMark : List Value} {ab_OverMark : Bool} {col_OverMark : Option Bool} {dd_OverMark : Option Addr} {m0_OverMark m1_OverMark m2_OverMark m3_OverMark m5_OverMark : Option Value}
    {nm_OnLine q_OnLine : Str} {N_OnLine : Addr} {bs_OnLine : List Value} {sn_OnLine : List Str} {sub_OnLine : List Value} {ab_OnLine : Bool} {col_OnLine : Option Bool} {dd_OnLine : Option Addr} {m0_OnLine m1_OnLine m2_OnLine m3_OnLine m5_OnLine : Option Value}
    {nm_BadLog q_BadLog : Str} {N_BadLog : Addr} {bs_BadLog : List Value} {sn_BadLog : List Str} {sub_BadLog : List Value} {ab_BadLog : Bool} {col_BadLog : Option Bool} {dd_BadLog : Option Addr} {m0_BadLog m1_BadLog m2_BadLog m3_BadLog m5_BadLog : Option Value}
    {nm_BadScript q_BadScript : Str} {N_BadScript : Addr} {bs_BadScript : List Value} {sn_BadScript : List Str} {sub_BadScript : List Value} {ab_BadScript : Bool} {col_BadScript : Option Bool} {dd_BadScript : Option Addr} {m0_BadScript m1_BadScript m2_BadScript m3_BadScript m5_BadScript : Option Value}
    {nm_NoLap q_NoLap : Str} {N_NoLap : Addr} {bs_NoLap : List Value} {sn_NoLap : List Str} {sub_NoLap : List Value} {ab_NoLap : Bool} {col_NoLap : Option Bool} {dd_NoLap : Option Addr} {m0_NoLap m1_NoLap m2_NoLap m3_NoLap m5_NoLap : Option Value}
    {nm_BadAsk q_BadAsk : Str} {N_BadAsk : Addr} {bs_BadAsk : List Value} {sn_BadAsk : List Str} {sub_BadAsk : List Value} {ab_BadAsk : Bool} {col_BadAsk : Option Bool} {dd_BadAsk : Option Addr} {m0_BadAsk m1_BadAsk m2_BadAsk m3_BadAsk m5_BadAsk : Option Value}
    {nm_Unlike q_Unlike : Str} {N_Unlike : Addr} {bs_Unlike : List Value} {sn_Unlike : List Str} {sub_Unlike : List Value} {ab_Unlike : Bool} {col_Unlike : Option Bool} {dd_Unlike : Option Addr} {m0_Unlike m1_Unlike m2_Unlike m3_Unlike m5_Unlike : Option Value}
    {nm_BadOffers q_BadOffers : Str} {N_BadOffers : Addr} {bs_BadOffers : List Value} {sn_BadOffers : List Str} {sub_BadOffers : List Value} {ab_BadOffers : Bool} {col_BadOffers : Option Bool} {dd_BadOffers : Option Addr} {m0_BadOffers m1_BadOffers m2_BadOffers m3_BadOffers m5_BadOffers : Option Value}
    {nm_BadAsks q_BadAsks : Str} {N_BadAsks : Addr} {bs_BadAsks : List Value} {sn_BadAsks : List Str} {sub_BadAsks : List Value} {ab_BadAsks : Bool} {col_BadAsks : Option Bool} {dd_BadAsks : Option Addr} {m0_BadAsks m1_BadAsks m2_BadAsks m3_BadAsks m5_BadAsks : Option Value}
    {nm_Lost q_Lost : Str} {N_Lost : Addr} {bs_Lost : List Value} {sn_Lost : List Str} {sub_Lost : List Value} {ab_Lost : Bool} {col_Lost : Option Bool} {dd_Lost : Option Addr} {m0_Lost m1_Lost m2_Lost m3_Lost m5_Lost : Option Value}
    {nm_NothingToUndo q_NothingToUndo : Str} {N_NothingToUndo : Addr} {bs_NothingToUndo : List Value} {sn_NothingToUndo : List Str} {sub_NothingToUndo : List Value} {ab_NothingToUndo : Bool} {col_NothingToUndo : Option Bool} {dd_NothingToUndo : Option Addr} {m0_NothingToUndo m1_NothingToUndo m2_NothingToUndo m3_NothingToUndo m5_NothingToUndo : Option Value}
    {nm_NothingToRedo q_NothingToRedo : Str} {N_NothingToRedo : Addr} {bs_NothingToRedo : List Value} {sn_NothingToRedo : List Str} {sub_NothingToRedo : List Value} {ab_NothingToRedo : Bool} {col_NothingToRedo : Option Bool} {dd_NothingToRedo : Option Addr} {m0_NothingToRedo m1_NothingToRedo m2_NothingToRedo m3_NothingToRedo m5_NothingToRedo : Option Value}
    {nm_NoTrial q_NoTrial : Str} {N_NoTrial : Addr} {bs_NoTrial : List Value} {sn_NoTrial : List Str} {sub_NoTrial : List Value} {ab_NoTrial : Bool} {col_NoTrial : Option Bool} {dd_NoTrial : Option Addr} {m0_NoTrial m1_NoTrial m2_NoTrial m3_NoTrial m5_NoTrial : Option Value}
    {nm_BadJournal q_BadJournal : Str} {N_BadJournal : Addr} {bs_BadJournal : List Value} {sn_BadJournal : List Str} {sub_BadJournal : List Value} {ab_BadJournal : Bool} {col_BadJournal : Option Bool} {dd_BadJournal : Option Addr} {m0_BadJournal m1_BadJournal m2_BadJournal m3_BadJournal m5_BadJournal : Option Value}
    {nm_BadSay q_BadSay : Str} {N_BadSay : Addr} {bs_BadSay : List Value} {sn_BadSay : List Str} {sub_BadSay : List Value} {ab_BadSay : Bool} {col_BadSay : Option Bool} {dd_BadSay : Option Addr} {m0_BadSay m1_BadSay m2_BadSay m3_BadSay m5_BadSay : Option Value}
    {od_init an_init : Option Addr} {sl_init : Array (Option Value)} {oc_init kV_init dc_init pm_init cd_init ct_init : Value}
    {f__law_pot : Addr}
    {od__law_pot an__law_pot : Option Addr} {sl__law_pot : Array (Option Value)} {oc__law_pot kV__law_pot dc__law_pot pm__law_pot cd__law_pot ct__law_pot : Value}
    {f__law_take : Addr}
    {od__law_take an__law_take : Option Addr} {sl__law_take : Array (Option Value)} {oc__law_take kV__law_take dc__law_take pm__law_take cd__law_take ct__law_take : Value}
    {f__law_of : Addr}
    {od__law_of an__law_of : Option Addr} {sl__law_of : Array (Option Value)} {oc__law_of kV__law_of dc__law_of pm__law_of cd__law_of ct__law_of : Value}
    {f__law_places : Addr}
    {od__law_places an__law_places : Option Addr} {sl__law_places : Array (Option Value)} {oc__law_places kV__law_places dc__law_places pm__law_places cd__law_places ct__law_places : Value}
    {f__law_odd : Addr}
    {od__law_odd an__law_odd : Option Addr} {sl__law_odd : Array (Option Value)} {oc__law_odd kV__law_odd dc__law_odd pm__law_odd cd__law_odd ct__law_odd : Value}
    {f__law_bent : Addr}
    {od__law_bent an__law_bent : Option Addr} {sl__law_bent : Array (Option Value)} {oc__law_bent kV__law_bent dc__law_bent pm__law_bent cd__law_bent ct__law_bent : Value}
    {f__law_all : Addr}
    {od__law_all an__law_all : Option Addr} {sl__law_all : Array (Option Value)} {oc__law_all kV__law_all dc__law_all pm__law_all cd__law_all ct__law_all : Value}
    {f__law_kinds : Addr}
    {od__law_kinds an__law_kinds : Option Addr} {sl__law_kinds : Array (Option Value)} {oc__law_kinds kV__law_kinds dc__law_kinds pm__law_kinds cd__law_kinds ct__law_kinds : Value}
    {f__law_right : Addr}
    {od__law_right an__law_right : Option Addr} {sl__law_right : Array (Option Value)} {oc__law_right kV__law_right dc__law_right pm__law_right cd__law_right ct__law_right : Value}
    {f_law : Addr}
    {od_law an_law : Option Addr} {sl_law : Array (Option Value)} {oc_law kV_law dc_law pm_law cd_law ct_law : Value}
    (n_ValueError : PySem.W.nsIn K mainGlobals "ValueError" = some none)
    (n_abs : PySem.W.nsIn K mainGlobals "abs" = some none)
    (n_all : PySem.W.nsIn K mainGlobals "all" = some none)
    (n_any : PySem.W.nsIn K mainGlobals "any" = some none)
    (n_bool : PySem.W.nsIn K mainGlobals "bool" = some none)
    (n_enumerate : PySem.W.nsIn K mainGlobals "enumerate" = some none)
    (n_int : PySem.W.nsIn K mainGlobals "int" = some none)
    (n_isinstance : PySem.W.nsIn K mainGlobals "isinstance" = some none)
    (n_len : PySem.W.nsIn K mainGlobals "len" = some none)
    (n_list : PySem.W.nsIn K mainGlobals "list" = some none)
    (n_max : PySem.W.nsIn K mainGlobals "max" = some none)
    (n_min : PySem.W.nsIn K mainGlobals "min" = some none)
    (n_range : PySem.W.nsIn K mainGlobals "range" = some none)
    (n_repr : PySem.W.nsIn K mainGlobals "repr" = some none)
    (n_str : PySem.W.nsIn K mainGlobals "str" = some none)
    (n_tuple : PySem.W.nsIn K mainGlobals "tuple" = some none)
    (g_AboutError : PySem.W.nsIn K mainGlobals "AboutError" = some (some (.ref C_AboutError)))
    (g_BadRatio : PySem.W.nsIn K mainGlobals "BadRatio" = some (some (.ref C_BadRatio)))
    (g_BadText : PySem.W.nsIn K mainGlobals "BadText" = some (some (.ref C_BadText)))
    (g_BadPoint : PySem.W.nsIn K mainGlobals "BadPoint" = some (some (.ref C_BadPoint)))
    (g_BadNumber : PySem.W.nsIn K mainGlobals "BadNumber" = some (some (.ref C_BadNumber)))
    (g_Off : PySem.W.nsIn K mainGlobals "Off" = some (some (.ref C_Off)))
    (g_BadChart : PySem.W.nsIn K mainGlobals "BadChart" = some (some (.ref C_BadChart)))
    (g_NoMark : PySem.W.nsIn K mainGlobals "NoMark" = some (some (.ref C_NoMark)))
    (g_BadLine : PySem.W.nsIn K mainGlobals "BadLine" = some (some (.ref C_BadLine)))
    (g_Needed : PySem.W.nsIn K mainGlobals "Needed" = some (some (.ref C_Needed)))
    (g_AtMark : PySem.W.nsIn K mainGlobals "AtMark" = some (some (.ref C_AtMark)))
    (g_BadNames : PySem.W.nsIn K mainGlobals "BadNames" = some (some (.ref C_BadNames)))
    (g_BadSides : PySem.W.nsIn K mainGlobals "BadSides" = some (some (.ref C_BadSides)))
    (g_NoCell : PySem.W.nsIn K mainGlobals "NoCell" = some (some (.ref C_NoCell)))
    (g_BadCells : PySem.W.nsIn K mainGlobals "BadCells" = some (some (.ref C_BadCells)))
    (g_BadLand : PySem.W.nsIn K mainGlobals "BadLand" = some (some (.ref C_BadLand)))
    (g_BadRound : PySem.W.nsIn K mainGlobals "BadRound" = some (some (.ref C_BadRound)))
    (g_OverMark : PySem.W.nsIn K mainGlobals "OverMark" = some (some (.ref C_OverMark)))
    (g_OnLine : PySem.W.nsIn K mainGlobals "OnLine" = some (some (.ref C_OnLine)))
    (g_BadLog : PySem.W.nsIn K mainGlobals "BadLog" = some (some (.ref C_BadLog)))
    (g_BadScript : PySem.W.nsIn K mainGlobals "BadScript" = some (some (.ref C_BadScript)))
    (g_NoLap : PySem.W.nsIn K mainGlobals "NoLap" = some (some (.ref C_NoLap)))
    (g_BadAsk : PySem.W.nsIn K mainGlobals "BadAsk" = some (some (.ref C_BadAsk)))
    (g_Unlike : PySem.W.nsIn K mainGlobals "Unlike" = some (some (.ref C_Unlike)))
    (g_BadOffers : PySem.W.nsIn K mainGlobals "BadOffers" = some (some (.ref C_BadOffers)))
    (g_BadAsks : PySem.W.nsIn K mainGlobals "BadAsks" = some (some (.ref C_BadAsks)))
    (g_Lost : PySem.W.nsIn K mainGlobals "Lost" = some (some (.ref C_Lost)))
    (g_NothingToUndo : PySem.W.nsIn K mainGlobals "NothingToUndo" = some (some (.ref C_NothingToUndo)))
    (g_NothingToRedo : PySem.W.nsIn K mainGlobals "NothingToRedo" = some (some (.ref C_NothingToRedo)))
    (g_NoTrial : PySem.W.nsIn K mainGlobals "NoTrial" = some (some (.ref C_NoTrial)))
    (g_BadJournal : PySem.W.nsIn K mainGlobals "BadJournal" = some (some (.ref C_BadJournal)))
    (g_BadSay : PySem.W.nsIn K mainGlobals "BadSay" = some (some (.ref C_BadSay)))
    (x_AboutError : K.lookup C_AboutError = some (excClassObj nm_AboutError q_AboutError C_AboutError N_AboutError bs_AboutError [.type "ValueError", .type "Exception", .type "BaseException", .type "object"] true sn_AboutError sub_AboutError ab_AboutError col_AboutError dd_AboutError m0_AboutError m1_AboutError m2_AboutError m3_AboutError m5_AboutError "ValueError.__new__"))
    (x_BadRatio : K.lookup C_BadRatio = some (excClassObj nm_BadRatio q_BadRatio C_BadRatio N_BadRatio bs_BadRatio (.ref C_AboutError :: [.type "ValueError", .type "Exception", .type "BaseException", .type "object"]) true sn_BadRatio sub_BadRatio ab_BadRatio col_BadRatio dd_BadRatio m0_BadRatio m1_BadRatio m2_BadRatio m3_BadRatio m5_BadRatio "ValueError.__new__"))
    (x_BadText : K.lookup C_BadText = some (excClassObj nm_BadText q_BadText C_BadText N_BadText bs_BadText (.ref C_AboutError :: [.type "ValueError", .type "Exception", .type "BaseException", .type "object"]) true sn_BadText sub_BadText ab_BadText col_BadText dd_BadText m0_BadText m1_BadText m2_BadText m3_BadText m5_BadText "ValueError.__new__"))
    (x_BadPoint : K.lookup C_BadPoint = some (excClassObj nm_BadPoint q_BadPoint C_BadPoint N_BadPoint bs_BadPoint (.ref C_AboutError :: [.type "ValueError", .type "Exception", .type "BaseException", .type "object"]) true sn_BadPoint sub_BadPoint ab_BadPoint col_BadPoint dd_BadPoint m0_BadPoint m1_BadPoint m2_BadPoint m3_BadPoint m5_BadPoint "ValueError.__new__"))
    (x_BadNumber : K.lookup C_BadNumber = some (excClassObj nm_BadNumber q_BadNumber C_BadNumber N_BadNumber bs_BadNumber (.ref C_AboutError :: [.type "ValueError", .type "Exception", .type "BaseException", .type "object"]) true sn_BadNumber sub_BadNumber ab_BadNumber col_BadNumber dd_BadNumber m0_BadNumber m1_BadNumber m2_BadNumber m3_BadNumber m5_BadNumber "ValueError.__new__"))
    (x_Off : K.lookup C_Off = some (excClassObj nm_Off q_Off C_Off N_Off bs_Off (.ref C_AboutError :: [.type "ValueError", .type "Exception", .type "BaseException", .type "object"]) true sn_Off sub_Off ab_Off col_Off dd_Off m0_Off m1_Off m2_Off m3_Off m5_Off "ValueError.__new__"))
    (x_BadChart : K.lookup C_BadChart = some (excClassObj nm_BadChart q_BadChart C_BadChart N_BadChart bs_BadChart (.ref C_AboutError :: [.type "ValueError", .type "Exception", .type "BaseException", .type "object"]) true sn_BadChart sub_BadChart ab_BadChart col_BadChart dd_BadChart m0_BadChart m1_BadChart m2_BadChart m3_BadChart m5_BadChart "ValueError.__new__"))
    (x_NoMark : K.lookup C_NoMark = some (excClassObj nm_NoMark q_NoMark C_NoMark N_NoMark bs_NoMark (.ref C_AboutError :: [.type "ValueError", .type "Exception", .type "BaseException", .type "object"]) true sn_NoMark sub_NoMark ab_NoMark col_NoMark dd_NoMark m0_NoMark m1_NoMark m2_NoMark m3_NoMark m5_NoMark "ValueError.__new__"))
    (x_BadLine : K.lookup C_BadLine = some (excClassObj nm_BadLine q_BadLine C_BadLine N_BadLine bs_BadLine (.ref C_AboutError :: [.type "ValueError", .type "Exception", .type "BaseException", .type "object"]) true sn_BadLine sub_BadLine ab_BadLine col_BadLine dd_BadLine m0_BadLine m1_BadLine m2_BadLine m3_BadLine m5_BadLine "ValueError.__new__"))
    (x_Needed : K.lookup C_Needed = some (excClassObj nm_Needed q_Needed C_Needed N_Needed bs_Needed (.ref C_AboutError :: [.type "ValueError", .type "Exception", .type "BaseException", .type "object"]) true sn_Needed sub_Needed ab_Needed col_Needed dd_Needed m0_Needed m1_Needed m2_Needed m3_Needed m5_Needed "ValueError.__new__"))
    (x_AtMark : K.lookup C_AtMark = some (excClassObj nm_AtMark q_AtMark C_AtMark N_AtMark bs_AtMark (.ref C_AboutError :: [.type "ValueError", .type "Exception", .type "BaseException", .type "object"]) true sn_AtMark sub_AtMark ab_AtMark col_AtMark dd_AtMark m0_AtMark m1_AtMark m2_AtMark m3_AtMark m5_AtMark "ValueError.__new__"))
    (x_BadNames : K.lookup C_BadNames = some (excClassObj nm_BadNames q_BadNames C_BadNames N_BadNames bs_BadNames (.ref C_AboutError :: [.type "ValueError", .type "Exception", .type "BaseException", .type "object"]) true sn_BadNames sub_BadNames ab_BadNames col_BadNames dd_BadNames m0_BadNames m1_BadNames m2_BadNames m3_BadNames m5_BadNames "ValueError.__new__"))
    (x_BadSides : K.lookup C_BadSides = some (excClassObj nm_BadSides q_BadSides C_BadSides N_BadSides bs_BadSides (.ref C_AboutError :: [.type "ValueError", .type "Exception", .type "BaseException", .type "object"]) true sn_BadSides sub_BadSides ab_BadSides col_BadSides dd_BadSides m0_BadSides m1_BadSides m2_BadSides m3_BadSides m5_BadSides "ValueError.__new__"))
    (x_NoCell : K.lookup C_NoCell = some (excClassObj nm_NoCell q_NoCell C_NoCell N_NoCell bs_NoCell (.ref C_AboutError :: [.type "ValueError", .type "Exception", .type "BaseException", .type "object"]) true sn_NoCell sub_NoCell ab_NoCell col_NoCell dd_NoCell m0_NoCell m1_NoCell m2_NoCell m3_NoCell m5_NoCell "ValueError.__new__"))
    (x_BadCells : K.lookup C_BadCells = some (excClassObj nm_BadCells q_BadCells C_BadCells N_BadCells bs_BadCells (.ref C_AboutError :: [.type "ValueError", .type "Exception", .type "BaseException", .type "object"]) true sn_BadCells sub_BadCells ab_BadCells col_BadCells dd_BadCells m0_BadCells m1_BadCells m2_BadCells m3_BadCells m5_BadCells "ValueError.__new__"))
    (x_BadLand : K.lookup C_BadLand = some (excClassObj nm_BadLand q_BadLand C_BadLand N_BadLand bs_BadLand (.ref C_AboutError :: [.type "ValueError", .type "Exception", .type "BaseException", .type "object"]) true sn_BadLand sub_BadLand ab_BadLand col_BadLand dd_BadLand m0_BadLand m1_BadLand m2_BadLand m3_BadLand m5_BadLand "ValueError.__new__"))
    (x_BadRound : K.lookup C_BadRound = some (excClassObj nm_BadRound q_BadRound C_BadRound N_BadRound bs_BadRound (.ref C_AboutError :: [.type "ValueError", .type "Exception", .type "BaseException", .type "object"]) true sn_BadRound sub_BadRound ab_BadRound col_BadRound dd_BadRound m0_BadRound m1_BadRound m2_BadRound m3_BadRound m5_BadRound "ValueError.__new__"))
    (x_OverMark : K.lookup C_OverMark = some (excClassObj nm_OverMark q_OverMark C_OverMark N_OverMark bs_OverMark (.ref C_AboutError :: [.type "ValueError", .type "Exception", .type "BaseException", .type "object"]) true sn_OverMark sub_OverMark ab_OverMark col_OverMark dd_OverMark m0_OverMark m1_OverMark m2_OverMark m3_OverMark m5_OverMark "ValueError.__new__"))
    (x_OnLine : K.lookup C_OnLine = some (excClassObj nm_OnLine q_OnLine C_OnLine N_OnLine bs_OnLine (.ref C_AboutError :: [.type "ValueError", .type "Exception", .type "BaseException", .type "object"]) true sn_OnLine sub_OnLine ab_OnLine col_OnLine dd_OnLine m0_OnLine m1_OnLine m2_OnLine m3_OnLine m5_OnLine "ValueError.__new__"))
    (x_BadLog : K.lookup C_BadLog = some (excClassObj nm_BadLog q_BadLog C_BadLog N_BadLog bs_BadLog (.ref C_AboutError :: [.type "ValueError", .type "Exception", .type "BaseException", .type "object"]) true sn_BadLog sub_BadLog ab_BadLog col_BadLog dd_BadLog m0_BadLog m1_BadLog m2_BadLog m3_BadLog m5_BadLog "ValueError.__new__"))
    (x_BadScript : K.lookup C_BadScript = some (excClassObj nm_BadScript q_BadScript C_BadScript N_BadScript bs_BadScript (.ref C_AboutError :: [.type "ValueError", .type "Exception", .type "BaseException", .type "object"]) true sn_BadScript sub_BadScript ab_BadScript col_BadScript dd_BadScript m0_BadScript m1_BadScript m2_BadScript m3_BadScript m5_BadScript "ValueError.__new__"))
    (x_NoLap : K.lookup C_NoLap = some (excClassObj nm_NoLap q_NoLap C_NoLap N_NoLap bs_NoLap (.ref C_AboutError :: [.type "ValueError", .type "Exception", .type "BaseException", .type "object"]) true sn_NoLap sub_NoLap ab_NoLap col_NoLap dd_NoLap m0_NoLap m1_NoLap m2_NoLap m3_NoLap m5_NoLap "ValueError.__new__"))
    (x_BadAsk : K.lookup C_BadAsk = some (excClassObj nm_BadAsk q_BadAsk C_BadAsk N_BadAsk bs_BadAsk (.ref C_AboutError :: [.type "ValueError", .type "Exception", .type "BaseException", .type "object"]) true sn_BadAsk sub_BadAsk ab_BadAsk col_BadAsk dd_BadAsk m0_BadAsk m1_BadAsk m2_BadAsk m3_BadAsk m5_BadAsk "ValueError.__new__"))
    (x_Unlike : K.lookup C_Unlike = some (excClassObj nm_Unlike q_Unlike C_Unlike N_Unlike bs_Unlike (.ref C_AboutError :: [.type "ValueError", .type "Exception", .type "BaseException", .type "object"]) true sn_Unlike sub_Unlike ab_Unlike col_Unlike dd_Unlike m0_Unlike m1_Unlike m2_Unlike m3_Unlike m5_Unlike "ValueError.__new__"))
    (x_BadOffers : K.lookup C_BadOffers = some (excClassObj nm_BadOffers q_BadOffers C_BadOffers N_BadOffers bs_BadOffers (.ref C_AboutError :: [.type "ValueError", .type "Exception", .type "BaseException", .type "object"]) true sn_BadOffers sub_BadOffers ab_BadOffers col_BadOffers dd_BadOffers m0_BadOffers m1_BadOffers m2_BadOffers m3_BadOffers m5_BadOffers "ValueError.__new__"))
    (x_BadAsks : K.lookup C_BadAsks = some (excClassObj nm_BadAsks q_BadAsks C_BadAsks N_BadAsks bs_BadAsks (.ref C_AboutError :: [.type "ValueError", .type "Exception", .type "BaseException", .type "object"]) true sn_BadAsks sub_BadAsks ab_BadAsks col_BadAsks dd_BadAsks m0_BadAsks m1_BadAsks m2_BadAsks m3_BadAsks m5_BadAsks "ValueError.__new__"))
    (x_Lost : K.lookup C_Lost = some (excClassObj nm_Lost q_Lost C_Lost N_Lost bs_Lost (.ref C_AboutError :: [.type "ValueError", .type "Exception", .type "BaseException", .type "object"]) true sn_Lost sub_Lost ab_Lost col_Lost dd_Lost m0_Lost m1_Lost m2_Lost m3_Lost m5_Lost "ValueError.__new__"))
    (x_NothingToUndo : K.lookup C_NothingToUndo = some (excClassObj nm_NothingToUndo q_NothingToUndo C_NothingToUndo N_NothingToUndo bs_NothingToUndo (.ref C_AboutError :: [.type "ValueError", .type "Exception", .type "BaseException", .type "object"]) true sn_NothingToUndo sub_NothingToUndo ab_NothingToUndo col_NothingToUndo dd_NothingToUndo m0_NothingToUndo m1_NothingToUndo m2_NothingToUndo m3_NothingToUndo m5_NothingToUndo "ValueError.__new__"))
    (x_NothingToRedo : K.lookup C_NothingToRedo = some (excClassObj nm_NothingToRedo q_NothingToRedo C_NothingToRedo N_NothingToRedo bs_NothingToRedo (.ref C_AboutError :: [.type "ValueError", .type "Exception", .type "BaseException", .type "object"]) true sn_NothingToRedo sub_NothingToRedo ab_NothingToRedo col_NothingToRedo dd_NothingToRedo m0_NothingToRedo m1_NothingToRedo m2_NothingToRedo m3_NothingToRedo m5_NothingToRedo "ValueError.__new__"))
    (x_NoTrial : K.lookup C_NoTrial = some (excClassObj nm_NoTrial q_NoTrial C_NoTrial N_NoTrial bs_NoTrial (.ref C_AboutError :: [.type "ValueError", .type "Exception", .type "BaseException", .type "object"]) true sn_NoTrial sub_NoTrial ab_NoTrial col_NoTrial dd_NoTrial m0_NoTrial m1_NoTrial m2_NoTrial m3_NoTrial m5_NoTrial "ValueError.__new__"))
    (x_BadJournal : K.lookup C_BadJournal = some (excClassObj nm_BadJournal q_BadJournal C_BadJournal N_BadJournal bs_BadJournal (.ref C_AboutError :: [.type "ValueError", .type "Exception", .type "BaseException", .type "object"]) true sn_BadJournal sub_BadJournal ab_BadJournal col_BadJournal dd_BadJournal m0_BadJournal m1_BadJournal m2_BadJournal m3_BadJournal m5_BadJournal "ValueError.__new__"))
    (x_BadSay : K.lookup C_BadSay = some (excClassObj nm_BadSay q_BadSay C_BadSay N_BadSay bs_BadSay (.ref C_AboutError :: [.type "ValueError", .type "Exception", .type "BaseException", .type "object"]) true sn_BadSay sub_BadSay ab_BadSay col_BadSay dd_BadSay m0_BadSay m1_BadSay m2_BadSay m3_BadSay m5_BadSay "ValueError.__new__"))
    (i0 : PySem.W.findIn K (.ref C_AboutError) "__init__" = some (some (.ref f_init)))
    (tI : PySem.W.typeIn K (.ref f_init) = some (.type "function"))
    (sp : PySem.W.specialIn K (.builtin "object.__class__") "__get__" = some (some (.builtin "getset_descriptor.__get__")))
    (tk : PySem.W.takesIn K (.builtin "object.__class__") = some true)
    (eb : ([C_AboutError, C_BadRatio, C_BadText, C_BadPoint, C_BadNumber, C_Off, C_BadChart, C_NoMark, C_BadLine, C_Needed, C_AtMark, C_BadNames, C_BadSides, C_NoCell, C_BadCells, C_BadLand, C_BadRound, C_OverMark, C_OnLine, C_BadLog, C_BadScript, C_NoLap, C_BadAsk, C_Unlike, C_BadOffers, C_BadAsks, C_Lost, C_NothingToUndo, C_NothingToRedo, C_NoTrial, C_BadJournal, C_BadSay].all fun C => ecB K f_init C) = true)
    (l_init : K.lookup f_init = some ⟨oc_init, od_init, .func (PySem.W.fnOf "__init__" "AboutError.__init__" (defArgs s_init) (defBody s_init) (defScope s_init) .none kV_init dc_init pm_init an_init cd_init ct_init), sl_init⟩)
    (c_init : PySem.W.codeIn K cd_init "AboutError.__init__" = true)
    (k_init : PySem.W.keepIn K (.ref f_init) = true)
    (g__law_pot : PySem.W.nsIn K mainGlobals "_law_pot" = some (some (.ref f__law_pot)))
    (l__law_pot : K.lookup f__law_pot = some ⟨oc__law_pot, od__law_pot, .func (PySem.W.fnOf "_law_pot" "_law_pot" (defArgs s__law_pot) (defBody s__law_pot) (defScope s__law_pot) .none kV__law_pot dc__law_pot pm__law_pot an__law_pot cd__law_pot ct__law_pot), sl__law_pot⟩)
    (c__law_pot : PySem.W.codeIn K cd__law_pot "_law_pot" = true)
    (k__law_pot : PySem.W.keepIn K (.ref f__law_pot) = true)
    (g__law_take : PySem.W.nsIn K mainGlobals "_law_take" = some (some (.ref f__law_take)))
    (l__law_take : K.lookup f__law_take = some ⟨oc__law_take, od__law_take, .func (PySem.W.fnOf "_law_take" "_law_take" (defArgs s__law_take) (defBody s__law_take) (defScope s__law_take) .none kV__law_take dc__law_take pm__law_take an__law_take cd__law_take ct__law_take), sl__law_take⟩)
    (c__law_take : PySem.W.codeIn K cd__law_take "_law_take" = true)
    (k__law_take : PySem.W.keepIn K (.ref f__law_take) = true)
    (g__law_of : PySem.W.nsIn K mainGlobals "_law_of" = some (some (.ref f__law_of)))
    (l__law_of : K.lookup f__law_of = some ⟨oc__law_of, od__law_of, .func (PySem.W.fnOf "_law_of" "_law_of" (defArgs s__law_of) (defBody s__law_of) (defScope s__law_of) .none kV__law_of dc__law_of pm__law_of an__law_of cd__law_of ct__law_of), sl__law_of⟩)
    (c__law_of : PySem.W.codeIn K cd__law_of "_law_of" = true)
    (k__law_of : PySem.W.keepIn K (.ref f__law_of) = true)
    (g__law_places : PySem.W.nsIn K mainGlobals "_law_places" = some (some (.ref f__law_places)))
    (l__law_places : K.lookup f__law_places = some ⟨oc__law_places, od__law_places, .func (PySem.W.fnOf "_law_places" "_law_places" (defArgs s__law_places) (defBody s__law_places) (defScope s__law_places) .none kV__law_places dc__law_places pm__law_places an__law_places cd__law_places ct__law_places), sl__law_places⟩)
    (c__law_places : PySem.W.codeIn K cd__law_places "_law_places" = true)
    (k__law_places : PySem.W.keepIn K (.ref f__law_places) = true)
    (g__law_odd : PySem.W.nsIn K mainGlobals "_law_odd" = some (some (.ref f__law_odd)))
    (l__law_odd : K.lookup f__law_odd = some ⟨oc__law_odd, od__law_odd, .func (PySem.W.fnOf "_law_odd" "_law_odd" (defArgs s__law_odd) (defBody s__law_odd) (defScope s__law_odd) .none kV__law_odd dc__law_odd pm__law_odd an__law_odd cd__law_odd ct__law_odd), sl__law_odd⟩)
    (c__law_odd : PySem.W.codeIn K cd__law_odd "_law_odd" = true)
    (k__law_odd : PySem.W.keepIn K (.ref f__law_odd) = true)
    (g__law_bent : PySem.W.nsIn K mainGlobals "_law_bent" = some (some (.ref f__law_bent)))
    (l__law_bent : K.lookup f__law_bent = some ⟨oc__law_bent, od__law_bent, .func (PySem.W.fnOf "_law_bent" "_law_bent" (defArgs s__law_bent) (defBody s__law_bent) (defScope s__law_bent) .none kV__law_bent dc__law_bent pm__law_bent an__law_bent cd__law_bent ct__law_bent), sl__law_bent⟩)
    (c__law_bent : PySem.W.codeIn K cd__law_bent "_law_bent" = true)
    (k__law_bent : PySem.W.keepIn K (.ref f__law_bent) = true)
    (g__law_all : PySem.W.nsIn K mainGlobals "_law_all" = some (some (.ref f__law_all)))
    (l__law_all : K.lookup f__law_all = some ⟨oc__law_all, od__law_all, .func (PySem.W.fnOf "_law_all" "_law_all" (defArgs s__law_all) (defBody s__law_all) (defScope s__law_all) .none kV__law_all dc__law_all pm__law_all an__law_all cd__law_all ct__law_all), sl__law_all⟩)
    (c__law_all : PySem.W.codeIn K cd__law_all "_law_all" = true)
    (k__law_all : PySem.W.keepIn K (.ref f__law_all) = true)
    (g__law_kinds : PySem.W.nsIn K mainGlobals "_law_kinds" = some (some (.ref f__law_kinds)))
    (l__law_kinds : K.lookup f__law_kinds = some ⟨oc__law_kinds, od__law_kinds, .func (PySem.W.fnOf "_law_kinds" "_law_kinds" (defArgs s__law_kinds) (defBody s__law_kinds) (defScope s__law_kinds) .none kV__law_kinds dc__law_kinds pm__law_kinds an__law_kinds cd__law_kinds ct__law_kinds), sl__law_kinds⟩)
    (c__law_kinds : PySem.W.codeIn K cd__law_kinds "_law_kinds" = true)
    (k__law_kinds : PySem.W.keepIn K (.ref f__law_kinds) = true)
    (g__law_right : PySem.W.nsIn K mainGlobals "_law_right" = some (some (.ref f__law_right)))
    (l__law_right : K.lookup f__law_right = some ⟨oc__law_right, od__law_right, .func (PySem.W.fnOf "_law_right" "_law_right" (defArgs s__law_right) (defBody s__law_right) (defScope s__law_right) .none kV__law_right dc__law_right pm__law_right an__law_right cd__law_right ct__law_right), sl__law_right⟩)
    (c__law_right : PySem.W.codeIn K cd__law_right "_law_right" = true)
    (k__law_right : PySem.W.keepIn K (.ref f__law_right) = true)
    (g_law : PySem.W.nsIn K mainGlobals "law" = some (some (.ref f_law)))
    (l_law : K.lookup f_law = some ⟨oc_law, od_law, .func (PySem.W.fnOf "law" "law" (defArgs s_law) (defBody s_law) (defScope s_law) .none kV_law dc_law pm_law an_law cd_law ct_law), sl_law⟩)
    (c_law : PySem.W.codeIn K cd_law "law" = true)
    (k_law : PySem.W.keepIn K (.ref f_law) = true)
    (kinds : kindsB K [C_BadRatio, C_BadText, C_BadPoint, C_BadNumber, C_Off, C_BadChart, C_NoMark, C_BadLine, C_Needed, C_AtMark, C_BadNames, C_BadSides, C_NoCell, C_BadCells, C_BadLand, C_BadRound, C_OverMark, C_OnLine, C_BadLog, C_BadScript, C_NoLap, C_BadAsk, C_Unlike, C_BadOffers, C_BadAsks, C_Lost, C_NothingToUndo, C_NothingToRedo, C_NoTrial, C_BadJournal, C_BadSay] C_AboutError = true) :
    ∃ fd : FuncData, (∀ (s : Shared) (v : Value), BindsTo s fd ⟨[v], []⟩ [("_law_script", v)]) ∧ ∀ base : Heap, K.In base → base.Ns mainGlobals mg → Fn P w K mg base CX0 8 fa fd ["_law_script"] ((spLaw K)) := by
  have e := hfa.symm.trans (PySem.W.mg_of X G g_law)
  cases e
  let a : Ad := ⟨f_init, C_AboutError, C_BadRatio, C_BadText, C_BadPoint, C_BadNumber, C_Off, C_BadChart, C_NoMark, C_BadLine, C_Needed, C_AtMark, C_BadNames, C_BadSides, C_NoCell, C_BadCells, C_BadLand, C_BadRound, C_OverMark, C_OnLine, C_BadLog, C_BadScript, C_NoLap, C_BadAsk, C_Unlike, C_BadOffers, C_BadAsks, C_Lost, C_NothingToUndo, C_NothingToRedo, C_NoTrial, C_BadJournal, C_BadSay, f__law_pot, f__law_take, f__law_of, f__law_places, f__law_odd, f__law_bent, f__law_all, f__law_kinds, f__law_right, fa⟩
  have eb1 : ∀ C ∈ [C_AboutError, C_BadRatio, C_BadText, C_BadPoint, C_BadNumber, C_Off, C_BadChart, C_NoMark, C_BadLine, C_Needed, C_AtMark, C_BadNames, C_BadSides, C_NoCell, C_BadCells, C_BadLand, C_BadRound, C_OverMark, C_OnLine, C_BadLog, C_BadScript, C_NoLap, C_BadAsk, C_Unlike, C_BadOffers, C_BadAsks, C_Lost, C_NothingToUndo, C_NothingToRedo, C_NoTrial, C_BadJournal, C_BadSay], ecB K f_init C = true := List.all_eq_true.mp eb
  have e_AboutError := ecB_ok (eb1 C_AboutError (by simp)) ⟨_, _, _, _, _, _, _, _, _, _, _, _, _, _, _, x_AboutError, by rfl⟩
  have e_BadRatio := ecB_ok (eb1 C_BadRatio (by simp)) ⟨_, _, _, _, _, _, _, _, _, _, _, _, _, _, _, x_BadRatio, by rfl⟩
  have e_BadText := ecB_ok (eb1 C_BadText (by simp)) ⟨_, _, _, _, _, _, _, _, _, _, _, _, _, _, _, x_BadText, by rfl⟩
  have e_BadPoint := ecB_ok (eb1 C_BadPoint (by simp)) ⟨_, _, _, _, _, _, _, _, _, _, _, _, _, _, _, x_BadPoint, by rfl⟩
  have e_BadNumber := ecB_ok (eb1 C_BadNumber (by simp)) ⟨_, _, _, _, _, _, _, _, _, _, _, _, _, _, _, x_BadNumber, by rfl⟩
  have e_Off := ecB_ok (eb1 C_Off (by simp)) ⟨_, _, _, _, _, _, _, _, _, _, _, _, _, _, _, x_Off, by rfl⟩
  have e_BadChart := ecB_ok (eb1 C_BadChart (by simp)) ⟨_, _, _, _, _, _, _, _, _, _, _, _, _, _, _, x_BadChart, by rfl⟩
  have e_NoMark := ecB_ok (eb1 C_NoMark (by simp)) ⟨_, _, _, _, _, _, _, _, _, _, _, _, _, _, _, x_NoMark, by rfl⟩
  have e_BadLine := ecB_ok (eb1 C_BadLine (by simp)) ⟨_, _, _, _, _, _, _, _, _, _, _, _, _, _, _, x_BadLine, by rfl⟩
  have e_Needed := ecB_ok (eb1 C_Needed (by simp)) ⟨_, _, _, _, _, _, _, _, _, _, _, _, _, _, _, x_Needed, by rfl⟩
  have e_AtMark := ecB_ok (eb1 C_AtMark (by simp)) ⟨_, _, _, _, _, _, _, _, _, _, _, _, _, _, _, x_AtMark, by rfl⟩
  have e_BadNames := ecB_ok (eb1 C_BadNames (by simp)) ⟨_, _, _, _, _, _, _, _, _, _, _, _, _, _, _, x_BadNames, by rfl⟩
  have e_BadSides := ecB_ok (eb1 C_BadSides (by simp)) ⟨_, _, _, _, _, _, _, _, _, _, _, _, _, _, _, x_BadSides, by rfl⟩
  have e_NoCell := ecB_ok (eb1 C_NoCell (by simp)) ⟨_, _, _, _, _, _, _, _, _, _, _, _, _, _, _, x_NoCell, by rfl⟩
  have e_BadCells := ecB_ok (eb1 C_BadCells (by simp)) ⟨_, _, _, _, _, _, _, _, _, _, _, _, _, _, _, x_BadCells, by rfl⟩
  have e_BadLand := ecB_ok (eb1 C_BadLand (by simp)) ⟨_, _, _, _, _, _, _, _, _, _, _, _, _, _, _, x_BadLand, by rfl⟩
  have e_BadRound := ecB_ok (eb1 C_BadRound (by simp)) ⟨_, _, _, _, _, _, _, _, _, _, _, _, _, _, _, x_BadRound, by rfl⟩
  have e_OverMark := ecB_ok (eb1 C_OverMark (by simp)) ⟨_, _, _, _, _, _, _, _, _, _, _, _, _, _, _, x_OverMark, by rfl⟩
  have e_OnLine := ecB_ok (eb1 C_OnLine (by simp)) ⟨_, _, _, _, _, _, _, _, _, _, _, _, _, _, _, x_OnLine, by rfl⟩
  have e_BadLog := ecB_ok (eb1 C_BadLog (by simp)) ⟨_, _, _, _, _, _, _, _, _, _, _, _, _, _, _, x_BadLog, by rfl⟩
  have e_BadScript := ecB_ok (eb1 C_BadScript (by simp)) ⟨_, _, _, _, _, _, _, _, _, _, _, _, _, _, _, x_BadScript, by rfl⟩
  have e_NoLap := ecB_ok (eb1 C_NoLap (by simp)) ⟨_, _, _, _, _, _, _, _, _, _, _, _, _, _, _, x_NoLap, by rfl⟩
  have e_BadAsk := ecB_ok (eb1 C_BadAsk (by simp)) ⟨_, _, _, _, _, _, _, _, _, _, _, _, _, _, _, x_BadAsk, by rfl⟩
  have e_Unlike := ecB_ok (eb1 C_Unlike (by simp)) ⟨_, _, _, _, _, _, _, _, _, _, _, _, _, _, _, x_Unlike, by rfl⟩
  have e_BadOffers := ecB_ok (eb1 C_BadOffers (by simp)) ⟨_, _, _, _, _, _, _, _, _, _, _, _, _, _, _, x_BadOffers, by rfl⟩
  have e_BadAsks := ecB_ok (eb1 C_BadAsks (by simp)) ⟨_, _, _, _, _, _, _, _, _, _, _, _, _, _, _, x_BadAsks, by rfl⟩
  have e_Lost := ecB_ok (eb1 C_Lost (by simp)) ⟨_, _, _, _, _, _, _, _, _, _, _, _, _, _, _, x_Lost, by rfl⟩
  have e_NothingToUndo := ecB_ok (eb1 C_NothingToUndo (by simp)) ⟨_, _, _, _, _, _, _, _, _, _, _, _, _, _, _, x_NothingToUndo, by rfl⟩
  have e_NothingToRedo := ecB_ok (eb1 C_NothingToRedo (by simp)) ⟨_, _, _, _, _, _, _, _, _, _, _, _, _, _, _, x_NothingToRedo, by rfl⟩
  have e_NoTrial := ecB_ok (eb1 C_NoTrial (by simp)) ⟨_, _, _, _, _, _, _, _, _, _, _, _, _, _, _, x_NoTrial, by rfl⟩
  have e_BadJournal := ecB_ok (eb1 C_BadJournal (by simp)) ⟨_, _, _, _, _, _, _, _, _, _, _, _, _, _, _, x_BadJournal, by rfl⟩
  have e_BadSay := ecB_ok (eb1 C_BadSay (by simp)) ⟨_, _, _, _, _, _, _, _, _, _, _, _, _, _, _, x_BadSay, by rfl⟩
  have T : Txt K mg a := {
    n_ValueError := PySem.W.mg_none_of X G n_ValueError
    n_abs := PySem.W.mg_none_of X G n_abs
    n_all := PySem.W.mg_none_of X G n_all
    n_any := PySem.W.mg_none_of X G n_any
    n_bool := PySem.W.mg_none_of X G n_bool
    n_enumerate := PySem.W.mg_none_of X G n_enumerate
    n_int := PySem.W.mg_none_of X G n_int
    n_isinstance := PySem.W.mg_none_of X G n_isinstance
    n_len := PySem.W.mg_none_of X G n_len
    n_list := PySem.W.mg_none_of X G n_list
    n_max := PySem.W.mg_none_of X G n_max
    n_min := PySem.W.mg_none_of X G n_min
    n_range := PySem.W.mg_none_of X G n_range
    n_repr := PySem.W.mg_none_of X G n_repr
    n_str := PySem.W.mg_none_of X G n_str
    n_tuple := PySem.W.mg_none_of X G n_tuple
    g__law_pot := PySem.W.mg_of X G g__law_pot
    k__law_pot := k__law_pot
    g__law_take := PySem.W.mg_of X G g__law_take
    k__law_take := k__law_take
    g__law_of := PySem.W.mg_of X G g__law_of
    k__law_of := k__law_of
    g__law_places := PySem.W.mg_of X G g__law_places
    k__law_places := k__law_places
    g__law_odd := PySem.W.mg_of X G g__law_odd
    k__law_odd := k__law_odd
    g__law_bent := PySem.W.mg_of X G g__law_bent
    k__law_bent := k__law_bent
    g__law_all := PySem.W.mg_of X G g__law_all
    k__law_all := k__law_all
    g__law_kinds := PySem.W.mg_of X G g__law_kinds
    k__law_kinds := k__law_kinds
    g__law_right := PySem.W.mg_of X G g__law_right
    k__law_right := k__law_right
    g_law := PySem.W.mg_of X G g_law
    k_law := k_law
    g_AboutError := PySem.W.mg_of X G g_AboutError
    c_AboutError := e_AboutError.1
    i_AboutError := e_AboutError.2
    g_BadRatio := PySem.W.mg_of X G g_BadRatio
    c_BadRatio := e_BadRatio.1
    i_BadRatio := e_BadRatio.2
    g_BadText := PySem.W.mg_of X G g_BadText
    c_BadText := e_BadText.1
    i_BadText := e_BadText.2
    g_BadPoint := PySem.W.mg_of X G g_BadPoint
    c_BadPoint := e_BadPoint.1
    i_BadPoint := e_BadPoint.2
    g_BadNumber := PySem.W.mg_of X G g_BadNumber
    c_BadNumber := e_BadNumber.1
    i_BadNumber := e_BadNumber.2
    g_Off := PySem.W.mg_of X G g_Off
    c_Off := e_Off.1
    i_Off := e_Off.2
    g_BadChart := PySem.W.mg_of X G g_BadChart
    c_BadChart := e_BadChart.1
    i_BadChart := e_BadChart.2
    g_NoMark := PySem.W.mg_of X G g_NoMark
    c_NoMark := e_NoMark.1
    i_NoMark := e_NoMark.2
    g_BadLine := PySem.W.mg_of X G g_BadLine
    c_BadLine := e_BadLine.1
    i_BadLine := e_BadLine.2
    g_Needed := PySem.W.mg_of X G g_Needed
    c_Needed := e_Needed.1
    i_Needed := e_Needed.2
    g_AtMark := PySem.W.mg_of X G g_AtMark
    c_AtMark := e_AtMark.1
    i_AtMark := e_AtMark.2
    g_BadNames := PySem.W.mg_of X G g_BadNames
    c_BadNames := e_BadNames.1
    i_BadNames := e_BadNames.2
    g_BadSides := PySem.W.mg_of X G g_BadSides
    c_BadSides := e_BadSides.1
    i_BadSides := e_BadSides.2
    g_NoCell := PySem.W.mg_of X G g_NoCell
    c_NoCell := e_NoCell.1
    i_NoCell := e_NoCell.2
    g_BadCells := PySem.W.mg_of X G g_BadCells
    c_BadCells := e_BadCells.1
    i_BadCells := e_BadCells.2
    g_BadLand := PySem.W.mg_of X G g_BadLand
    c_BadLand := e_BadLand.1
    i_BadLand := e_BadLand.2
    g_BadRound := PySem.W.mg_of X G g_BadRound
    c_BadRound := e_BadRound.1
    i_BadRound := e_BadRound.2
    g_OverMark := PySem.W.mg_of X G g_OverMark
    c_OverMark := e_OverMark.1
    i_OverMark := e_OverMark.2
    g_OnLine := PySem.W.mg_of X G g_OnLine
    c_OnLine := e_OnLine.1
    i_OnLine := e_OnLine.2
    g_BadLog := PySem.W.mg_of X G g_BadLog
    c_BadLog := e_BadLog.1
    i_BadLog := e_BadLog.2
    g_BadScript := PySem.W.mg_of X G g_BadScript
    c_BadScript := e_BadScript.1
    i_BadScript := e_BadScript.2
    g_NoLap := PySem.W.mg_of X G g_NoLap
    c_NoLap := e_NoLap.1
    i_NoLap := e_NoLap.2
    g_BadAsk := PySem.W.mg_of X G g_BadAsk
    c_BadAsk := e_BadAsk.1
    i_BadAsk := e_BadAsk.2
    g_Unlike := PySem.W.mg_of X G g_Unlike
    c_Unlike := e_Unlike.1
    i_Unlike := e_Unlike.2
    g_BadOffers := PySem.W.mg_of X G g_BadOffers
    c_BadOffers := e_BadOffers.1
    i_BadOffers := e_BadOffers.2
    g_BadAsks := PySem.W.mg_of X G g_BadAsks
    c_BadAsks := e_BadAsks.1
    i_BadAsks := e_BadAsks.2
    g_Lost := PySem.W.mg_of X G g_Lost
    c_Lost := e_Lost.1
    i_Lost := e_Lost.2
    g_NothingToUndo := PySem.W.mg_of X G g_NothingToUndo
    c_NothingToUndo := e_NothingToUndo.1
    i_NothingToUndo := e_NothingToUndo.2
    g_NothingToRedo := PySem.W.mg_of X G g_NothingToRedo
    c_NothingToRedo := e_NothingToRedo.1
    i_NothingToRedo := e_NothingToRedo.2
    g_NoTrial := PySem.W.mg_of X G g_NoTrial
    c_NoTrial := e_NoTrial.1
    i_NoTrial := e_NoTrial.2
    g_BadJournal := PySem.W.mg_of X G g_BadJournal
    c_BadJournal := e_BadJournal.1
    i_BadJournal := e_BadJournal.2
    g_BadSay := PySem.W.mg_of X G g_BadSay
    c_BadSay := e_BadSay.1
    i_BadSay := e_BadSay.2
    tI := tI
    ek := ⟨sp, tk⟩
    kinds := kinds
  }
  have F_init := fun_mk (st := s_init) l_init c_init k_init
  have b_init := F_init.binds (ps := ["self", "value"]) fun _ _ _ _ _ _ us hl => match us, hl with | [_, _], _ => rfl
  have F__law_pot := fun_mk (st := s__law_pot) l__law_pot c__law_pot k__law_pot
  have b__law_pot := F__law_pot.binds (ps := ["_law_script", "_law_k"]) fun _ _ _ _ _ _ us hl => match us, hl with | [_, _], _ => rfl
  have F__law_take := fun_mk (st := s__law_take) l__law_take c__law_take k__law_take
  have b__law_take := F__law_take.binds (ps := ["_law_pot_here", "_law_upto"]) fun _ _ _ _ _ _ us hl => match us, hl with | [_, _], _ => rfl
  have F__law_of := fun_mk (st := s__law_of) l__law_of c__law_of k__law_of
  have b__law_of := F__law_of.binds (ps := ["_law_pot_here", "_law_some"]) fun _ _ _ _ _ _ us hl => match us, hl with | [_, _], _ => rfl
  have F__law_places := fun_mk (st := s__law_places) l__law_places c__law_places k__law_places
  have b__law_places := F__law_places.binds (ps := ["_law_script", "_law_most"]) fun _ _ _ _ _ _ us hl => match us, hl with | [_, _], _ => rfl
  have F__law_odd := fun_mk (st := s__law_odd) l__law_odd c__law_odd k__law_odd
  have b__law_odd := F__law_odd.binds (ps := ["_law_pot_here"]) fun _ _ _ _ _ _ us hl => match us, hl with | [_], _ => rfl
  have F__law_bent := fun_mk (st := s__law_bent) l__law_bent c__law_bent k__law_bent
  have b__law_bent := F__law_bent.binds (ps := ["_law_pot_here", "_law_value"]) fun _ _ _ _ _ _ us hl => match us, hl with | [_, _], _ => rfl
  have F__law_all := fun_mk (st := s__law_all) l__law_all c__law_all k__law_all
  have b__law_all := F__law_all.binds (ps := ["_law_value"]) fun _ _ _ _ _ _ us hl => match us, hl with | [_], _ => rfl
  have F__law_kinds := fun_mk (st := s__law_kinds) l__law_kinds c__law_kinds k__law_kinds
  have b__law_kinds := F__law_kinds.binds (ps := ["_law_error"]) fun _ _ _ _ _ _ us hl => match us, hl with | [_], _ => rfl
  have F__law_right := fun_mk (st := s__law_right) l__law_right c__law_right k__law_right
  have b__law_right := F__law_right.binds (ps := ["_law_pot_here"]) fun _ _ _ _ _ _ us hl => match us, hl with | [_], _ => rfl
  have F_law := fun_mk (st := s_law) l_law c_law k_law
  have b_law := F_law.binds (ps := ["_law_script"]) fun _ _ _ _ _ _ us hl => match us, hl with | [_], _ => rfl
  refine ⟨PySem.W.fnOf "law" "law" (defArgs s_law) (defBody s_law) (defScope s_law) .none kV_law dc_law pm_law an_law cd_law ct_law, fun s v => .of_eq rfl, fun base _ _ => ?_⟩
  have G_init : FnOk P w K mg base CX0 1 f_init _ ["self", "value"] (spErrInit K) := ok_init F_init
  have G__law_pot := ok__law_pot (P := P) (w := w) (base := base) (a := a) F__law_pot T
  have G__law_take := ok__law_take (P := P) (w := w) (base := base) (a := a) F__law_take T
  have G__law_of := ok__law_of (P := P) (w := w) (base := base) (a := a) F__law_of T G__law_take b__law_take
  have G__law_places := ok__law_places (P := P) (w := w) (base := base) (a := a) F__law_places T
  have G__law_odd := ok__law_odd (P := P) (w := w) (base := base) (a := a) F__law_odd T G__law_of b__law_of
  have GB0 : ∀ fd, Fn P w K mg base CX0 (3 + 0) f__law_bent fd ["_law_pot_here", "_law_value"] (spBent 0) := fun fd => ⟨fun _ _ _ _ h => h.elim, fun _ _ _ _ _ _ _ _ _ _ _ _ _ _ h => h.elim⟩
  have GB1 := ok_bent (k := 0) (P := P) (w := w) (base := base) (a := a) F__law_bent T G__law_take b__law_take G__law_of b__law_of G__law_odd b__law_odd (GB0 _) b__law_bent
  have GB2 := ok_bent (k := 1) (P := P) (w := w) (base := base) (a := a) F__law_bent T G__law_take b__law_take G__law_of b__law_of G__law_odd b__law_odd GB1 b__law_bent
  have G__law_bent : Fn P w K mg base CX0 6 f__law_bent _ ["_law_pot_here", "_law_value"] (spBent 3) := ok_bent (k := 2) (P := P) (w := w) (base := base) (a := a) F__law_bent T G__law_take b__law_take G__law_of b__law_of G__law_odd b__law_odd GB2 b__law_bent
  have G__law_all := ok__law_all (P := P) (w := w) (base := base) (a := a) F__law_all T G_init b_init
  have G__law_kinds := ok__law_kinds (P := P) (w := w) (base := base) (a := a) F__law_kinds T
  have G__law_right := ok__law_right (P := P) (w := w) (base := base) (a := a) F__law_right T G__law_kinds b__law_kinds G_init b_init G__law_all b__law_all G__law_of b__law_of G__law_odd b__law_odd G__law_bent b__law_bent
  exact ok_law (a := a) F_law T G__law_places b__law_places G__law_right b__law_right G__law_pot b__law_pot
end My
open PySem PySem.W PyProof.Rows
set_option maxRecDepth 100000 in
set_option maxHeartbeats 0 in
theorem PySem.Challenge.cw_seenabout_k00_errors_keep_their_value_holds : PySem.Challenge.rw_seenabout_k00_errors_keep_their_value.Holds := by
  w_on; o_law; k_head; (case hw => w_witness2)
  k_fill
  refine G.walkOf (l := PySem.Challenge.rw_seenabout_k00_errors_keep_their_value) (n := 63) (k := 8) (x := "_law_script") (sp := fun K => My.spLaw K) rfl (by decide) rfl ⟨rfl, by decide, by decide⟩ (fun w h Y => PySem.W.kIn_of Y) ?F My.law_told
  case F =>
    intro w mg fa h KX G hmg
    refine' My.all_mk KX G hmg ?n_ValueError ?n_abs ?n_all ?n_any ?n_bool ?n_enumerate ?n_int ?n_isinstance ?n_len ?n_list ?n_max ?n_min ?n_range ?n_repr ?n_str ?n_tuple ?g_AboutError ?g_BadRatio ?g_BadText ?g_BadPoint ?g_BadNumber ?g_Off ?g_BadChart ?g_NoMark ?g_BadLine ?g_Needed ?g_AtMark ?g_BadNames ?g_BadSides ?g_NoCell ?g_BadCells ?g_BadLand ?g_BadRound ?g_OverMark ?g_OnLine ?g_BadLog ?g_BadScript ?g_NoLap ?g_BadAsk ?g_Unlike ?g_BadOffers ?g_BadAsks ?g_Lost ?g_NothingToUndo ?g_NothingToRedo ?g_NoTrial ?g_BadJournal ?g_BadSay ?x_AboutError ?x_BadRatio ?x_BadText ?x_BadPoint ?x_BadNumber ?x_Off ?x_BadChart ?x_NoMark ?x_BadLine ?x_Needed ?x_AtMark ?x_BadNames ?x_BadSides ?x_NoCell ?x_BadCells ?x_BadLand ?x_BadRound ?x_OverMark ?x_OnLine ?x_BadLog ?x_BadScript ?x_NoLap ?x_BadAsk ?x_Unlike ?x_BadOffers ?x_BadAsks ?x_Lost ?x_NothingToUndo ?x_NothingToRedo ?x_NoTrial ?x_BadJournal ?x_BadSay ?i0 ?tI ?sp ?tk ?eb ?l_init ?c_init ?k_init ?g__law_pot ?l__law_pot ?c__law_pot ?k__law_pot ?g__law_take ?l__law_take ?c__law_take ?k__law_take ?g__law_of ?l__law_of ?c__law_of ?k__law_of ?g__law_places ?l__law_places ?c__law_places ?k__law_places ?g__law_odd ?l__law_odd ?c__law_odd ?k__law_odd ?g__law_bent ?l__law_bent ?c__law_bent ?k__law_bent ?g__law_all ?l__law_all ?c__law_all ?k__law_all ?g__law_kinds ?l__law_kinds ?c__law_kinds ?k__law_kinds ?g__law_right ?l__law_right ?c__law_right ?k__law_right ?g_law ?l_law ?c_law ?k_law ?kinds
    (case n_ValueError => k_is)
    (case n_abs => k_is)
    (case n_all => k_is)
    (case n_any => k_is)
    (case n_bool => k_is)
    (case n_enumerate => k_is)
    (case n_int => k_is)
    (case n_isinstance => k_is)
    (case n_len => k_is)
    (case n_list => k_is)
    (case n_max => k_is)
    (case n_min => k_is)
    (case n_range => k_is)
    (case n_repr => k_is)
    (case n_str => k_is)
    (case n_tuple => k_is)
    (case g_AboutError => k_is)
    (case g_BadRatio => k_is)
    (case g_BadText => k_is)
    (case g_BadPoint => k_is)
    (case g_BadNumber => k_is)
    (case g_Off => k_is)
    (case g_BadChart => k_is)
    (case g_NoMark => k_is)
    (case g_BadLine => k_is)
    (case g_Needed => k_is)
    (case g_AtMark => k_is)
    (case g_BadNames => k_is)
    (case g_BadSides => k_is)
    (case g_NoCell => k_is)
    (case g_BadCells => k_is)
    (case g_BadLand => k_is)
    (case g_BadRound => k_is)
    (case g_OverMark => k_is)
    (case g_OnLine => k_is)
    (case g_BadLog => k_is)
    (case g_BadScript => k_is)
    (case g_NoLap => k_is)
    (case g_BadAsk => k_is)
    (case g_Unlike => k_is)
    (case g_BadOffers => k_is)
    (case g_BadAsks => k_is)
    (case g_Lost => k_is)
    (case g_NothingToUndo => k_is)
    (case g_NothingToRedo => k_is)
    (case g_NoTrial => k_is)
    (case g_BadJournal => k_is)
    (case g_BadSay => k_is)
    (case x_AboutError => k_is)
    (case x_BadRatio => k_is)
    (case x_BadText => k_is)
    (case x_BadPoint => k_is)
    (case x_BadNumber => k_is)
    (case x_Off => k_is)
    (case x_BadChart => k_is)
    (case x_NoMark => k_is)
    (case x_BadLine => k_is)
    (case x_Needed => k_is)
    (case x_AtMark => k_is)
    (case x_BadNames => k_is)
    (case x_BadSides => k_is)
    (case x_NoCell => k_is)
    (case x_BadCells => k_is)
    (case x_BadLand => k_is)
    (case x_BadRound => k_is)
    (case x_OverMark => k_is)
    (case x_OnLine => k_is)
    (case x_BadLog => k_is)
    (case x_BadScript => k_is)
    (case x_NoLap => k_is)
    (case x_BadAsk => k_is)
    (case x_Unlike => k_is)
    (case x_BadOffers => k_is)
    (case x_BadAsks => k_is)
    (case x_Lost => k_is)
    (case x_NothingToUndo => k_is)
    (case x_NothingToRedo => k_is)
    (case x_NoTrial => k_is)
    (case x_BadJournal => k_is)
    (case x_BadSay => k_is)
    (case i0 => k_is)
    (case tI => k_is)
    (case sp => k_is)
    (case tk => k_is)
    (case eb => kernel_rfl)
    (case l_init => k_is)
    (case c_init => k_is)
    (case k_init => k_is)
    (case g__law_pot => k_is)
    (case l__law_pot => k_is)
    (case c__law_pot => k_is)
    (case k__law_pot => k_is)
    (case g__law_take => k_is)
    (case l__law_take => k_is)
    (case c__law_take => k_is)
    (case k__law_take => k_is)
    (case g__law_of => k_is)
    (case l__law_of => k_is)
    (case c__law_of => k_is)
    (case k__law_of => k_is)
    (case g__law_places => k_is)
    (case l__law_places => k_is)
    (case c__law_places => k_is)
    (case k__law_places => k_is)
    (case g__law_odd => k_is)
    (case l__law_odd => k_is)
    (case c__law_odd => k_is)
    (case k__law_odd => k_is)
    (case g__law_bent => k_is)
    (case l__law_bent => k_is)
    (case c__law_bent => k_is)
    (case k__law_bent => k_is)
    (case g__law_all => k_is)
    (case l__law_all => k_is)
    (case c__law_all => k_is)
    (case k__law_all => k_is)
    (case g__law_kinds => k_is)
    (case l__law_kinds => k_is)
    (case c__law_kinds => k_is)
    (case k__law_kinds => k_is)
    (case g__law_right => k_is)
    (case l__law_right => k_is)
    (case c__law_right => k_is)
    (case k__law_right => k_is)
    (case g_law => k_is)
    (case l_law => k_is)
    (case c_law => k_is)
    (case k_law => k_is)
    (case kinds => kernel_rfl)
