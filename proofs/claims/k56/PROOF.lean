import PyProof.Rows.All
import Wide.All
import OpenK.AllK
import Wide.FinOn
import PyProof.ReprRoads
import HandS.Base
import HandS.Call
import HandS.List
import HandS.Ends
import HandS.EndBits
import HandS.Dict
import HandS.Words
import HandS.WordsList
import HandS.IsInst
import HandS.Wide
import HandS.ForMost
import PyProof.StrLawsRepr
import HandS.Exc
import HandS.ExcOwn
import HandS.WordsExc
import HandS.TryMany
import HandS.Strs
import HandS.Conv
import KE.KExcIs
import HandS.ExcInit
import HandS.ExcValue
import KE.KExcInit
import HandS.Iter
import PySem.Challenge.RW_solvedbothsides_k56_errors_and_bounds
set_option Elab.async false
set_option maxRecDepth 100000
set_option linter.unusedVariables false
/-! VKit: data over the abstract heap with dicts, repr of such data, defs that know that no repr runs around them -/
namespace VK
open PySem PySem.Spec PyProof.Rows L2

/-! ### data -/
def keyD : Key → PyData
  | .inl i => .int i
  | .inr x => .str x
mutual
inductive Da (H : Hp) : V → PyData → Prop
  | non : Da H .non .none
  | bl (b : Bool) : Da H (.bl b) (.bool b)
  | int (i : Int) : Da H (.int i) (.int i)
  | str (x : Str) : Da H (.str x) (.str x)
  | lst {a : Addr} {xs : List V} {ds : List PyData} : H a = some (.lst xs) → DaAll H xs ds → Da H (.ref a) (.list ds)
  | tup {a : Addr} {xs : List V} {ds : List PyData} : H a = some (.tup xs) → DaAll H xs ds → Da H (.ref a) (.tuple ds)
  | dic {a : Addr} {kvs : List (Key × V)} {ds : List PyData} : H a = some (.dK kvs) → DaAll H (kvs.map (·.2)) ds → Da H (.ref a) (.dict ((kvs.map (fun p => keyD p.1)).zip ds))
inductive DaAll (H : Hp) : List V → List PyData → Prop
  | nil : DaAll H [] []
  | cons {v : V} {vs : List V} {d : PyData} {ds : List PyData} : Da H v d → DaAll H vs ds → DaAll H (v :: vs) (d :: ds)
end
mutual
theorem Da.same {H H' : Hp} (e : Same H H') : ∀ {v : V} {d : PyData}, Da H v d → Da H' v d
  | _, _, .non => .non
  | _, _, .bl b => .bl b
  | _, _, .int i => .int i
  | _, _, .str x => .str x
  | _, _, .lst h r => .lst (e _ _ h) (DaAll.same e r)
  | _, _, .tup h r => .tup (e _ _ h) (DaAll.same e r)
  | _, _, .dic h r => .dic (e _ _ h) (DaAll.same e r)
theorem DaAll.same {H H' : Hp} (e : Same H H') : ∀ {vs : List V} {ds : List PyData}, DaAll H vs ds → DaAll H' vs ds
  | _, _, .nil => .nil
  | _, _, .cons h r => .cons (Da.same e h) (DaAll.same e r)
end
theorem DaAll.length {H : Hp} : ∀ {vs : List V} {ds : List PyData}, DaAll H vs ds → vs.length = ds.length
  | _, _, .nil => rfl
  | _, _, .cons _ r => congrArg (· + 1) r.length
theorem DaAll.append {H : Hp} : ∀ {vs ws : List V} {ds es : List PyData}, DaAll H vs ds → DaAll H ws es → DaAll H (vs ++ ws) (ds ++ es)
  | _, _, _, _, .nil, s => s
  | _, _, _, _, .cons h r, s => .cons h (r.append s)
theorem DaAll.get {H : Hp} : ∀ {vs : List V} {ds : List PyData} {i : Nat} {d : PyData}, DaAll H vs ds → ds[i]? = some d → ∃ v, vs[i]? = some v ∧ Da H v d
  | _, _, _, _, .nil, e => by simp at e
  | _, _, 0, _, .cons h _, e => ⟨_, rfl, by have e' := Option.some.inj e; rw [← e']; exact h⟩
  | _, _, i + 1, _, .cons _ r, e => DaAll.get (i := i) r e
theorem DaAll.getv {H : Hp} : ∀ {vs : List V} {ds : List PyData} {i : Nat} {v : V}, DaAll H vs ds → vs[i]? = some v → ∃ d, ds[i]? = some d ∧ Da H v d
  | _, _, _, _, .nil, e => by simp at e
  | _, _, 0, _, .cons h _, e => ⟨_, rfl, by have e' := Option.some.inj e; rw [← e']; exact h⟩
  | _, _, i + 1, _, .cons _ r, e => DaAll.getv (i := i) r e
/-! ### what is read of it in the machine's heap -/
theorem kv_vals {kvs : List (Key × V)} {vs : List (Key × Value)} (r : KV kvs vs) : Vals (kvs.map (·.2)) (vs.map (·.2)) ∧ kvs.map (·.1) = vs.map (·.1) := by
  induction r with
  | nil => exact ⟨.nil, rfl⟩
  | cons h _ ih => exact ⟨.cons h.2 ih.1, by rw [List.map_cons, List.map_cons, h.1, ih.2]⟩
end VK
namespace VK
open PySem PySem.Spec PyProof.Rows L2
section
variable {prog : Program} {w : World} {h : Heap}
theorem pairs_reads : ∀ {es : List DictEntry} {kvs : List (Key × Value)}, Pairs (mixKind prog w) es kvs → ReadsAll h (es.map (·.key)) (kvs.map fun p => keyD p.1) [] ∧ es.map (·.val) = kvs.map (·.2)
  | _, _, .nil => ⟨.nil, rfl⟩
  | _, _, .cons (kv := kv) hk hv r => by
    obtain ⟨r1, r2⟩ := pairs_reads r
    obtain ⟨k, v⟩ := kv
    refine ⟨?_, ?_⟩
    · rcases keyIs_shape hk with ⟨i, t, e1, e2⟩ | ⟨x, t, e1, e2⟩
      · have e1' : k = .inl i := e1
        subst e1'
        rw [List.map_cons, List.map_cons, e2]
        exact ReadsAll.cons (as := []) (.int i t) r1
      · have e1' : k = .inr x := e1
        subst e1'
        rw [List.map_cons, List.map_cons, e2]
        exact ReadsAll.cons (as := []) (.str x t) r1
    · rw [List.map_cons, List.map_cons, hv, r2]
end
theorem zip_fst {α β : Type} : ∀ {xs : List α} {ys : List β}, xs.length = ys.length → (xs.zip ys).map (·.1) = xs
  | [], [], _ => rfl
  | x :: xs, y :: ys, e => by
    show x :: (xs.zip ys).map (·.1) = x :: xs
    rw [zip_fst (Nat.succ.inj e)]
theorem zip_snd {α β : Type} : ∀ {xs : List α} {ys : List β}, xs.length = ys.length → (xs.zip ys).map (·.2) = ys
  | [], [], _ => rfl
  | x :: xs, y :: ys, e => by
    show y :: (xs.zip ys).map (·.2) = y :: ys
    rw [zip_snd (Nat.succ.inj e)]
section
variable {X : Cx} {pins : List (Addr × Obj)} {σ : L2.St} {H : Hp} {s : Shared}
mutual
theorem Da.reads (I : Inv X pins σ H s) : ∀ {v : V} {d : PyData} {u : Value}, Da H v d → RelV v u → ∃ as, Reads s.heap u d as ∧ ∀ a ∈ as, H a ≠ none
  | _, _, _, .non, r => by
    cases (show _ = Value.none from r)
    exact ⟨_, .none, fun _ z => nomatch z⟩
  | _, _, _, .bl b, r => by
    cases (show _ = Value.bool b from r)
    exact ⟨_, .bool b, fun _ z => nomatch z⟩
  | _, _, _, .int i, r => by
    obtain ⟨t, rfl⟩ := r
    exact ⟨_, .int i t, fun _ z => nomatch z⟩
  | _, _, _, .str x, r => by
    obtain ⟨t, rfl⟩ := r
    exact ⟨_, .str x t, fun _ z => nomatch z⟩
  | _, _, _, .lst (a := a) e q, r => by
    cases (show _ = Value.ref a from r)
    obtain ⟨_, its, n, rv, ho⟩ := I.hok _ _ e
    obtain ⟨as, hr, hn⟩ := DaAll.reads I q rv
    refine ⟨_, Reads.list ho rfl rfl hr, fun b hb => ?_⟩
    rcases List.mem_cons.mp hb with z | z
    · rw [z, e]; simp
    · exact hn b z
  | _, _, _, .tup (a := a) e q, r => by
    cases (show _ = Value.ref a from r)
    obtain ⟨_, its, rv, o, ho, hc, n, hd⟩ := I.hok _ _ e
    obtain ⟨as, hr, hn⟩ := DaAll.reads I q rv
    exact ⟨_, Reads.tuple ho hc hd hr, hn⟩
  | _, _, _, .dic (a := a) (kvs := kvs) (ds := ds) e q, r => by
    cases (show _ = Value.ref a from r)
    obtain ⟨_, _, vs, rel, o, es, ep, ho, hx, hd, _, hp, _⟩ := I.hok _ _ e
    obtain ⟨rv, ek⟩ := kv_vals rel
    obtain ⟨r1, ev⟩ := pairs_reads (h := s.heap) hp
    obtain ⟨as, hr, hn⟩ := DaAll.reads I q rv
    have hl : (kvs.map (fun p => keyD p.1)).length = ds.length := by
      rw [List.length_map, ← q.length, List.length_map]
    have ek2 : (vs.map fun p => keyD p.1) = kvs.map fun p => keyD p.1 := by
      have e1 := congrArg (List.map keyD) ek
      rw [List.map_map, List.map_map] at e1
      exact e1.symm
    refine ⟨_, Reads.dict ho hx.1 hd (as := []) (bs := as) ?_ ?_, fun b hb => ?_⟩
    · rw [zip_fst hl, ← ek2]
      exact r1
    · rw [zip_snd hl, ev]
      exact hr
    · rcases List.mem_cons.mp (show b ∈ a :: ([] ++ as) from hb) with z | z
      · rw [z, e]; simp
      · exact hn b z
theorem DaAll.reads (I : Inv X pins σ H s) : ∀ {vs : List V} {ds : List PyData} {us : List Value}, DaAll H vs ds → Vals vs us → ∃ as, ReadsAll s.heap us ds as ∧ ∀ a ∈ as, H a ≠ none
  | _, _, _, .nil, r => by
    cases r
    exact ⟨_, .nil, fun _ z => nomatch z⟩
  | _, _, _, .cons h q, r => by
    cases r with
    | cons r1 r2 =>
      obtain ⟨as, a1, a2⟩ := Da.reads I h r1
      obtain ⟨bs, b1, b2⟩ := DaAll.reads I q r2
      refine ⟨_, .cons a1 b1, fun b hb => ?_⟩
      rcases List.mem_append.mp hb with z | z
      · exact a2 b z
      · exact b2 b z
end
/-- repr of data -/
def rRepr : List V → Hp → VK → Prop := fun xs H Q => ∃ v d, xs = [v] ∧ Da H v d ∧ d.showable = true ∧ d.depth ≤ 100 ∧ d.shown.length ≤ sizeLine ∧ Q (.str d.shown) H
theorem call_repr (hg : X.A.guards = some []) (hu : X.A.units + 150 < cLine) (hs : ∃ o, X.base.get? sysModules = some o) : CallR X (.builtin "repr") rRepr := by
  intro pins s σ H xs us Q I r h
  obtain ⟨v, d, rfl, hd, h1, h2, h3, q⟩ := h
  obtain ⟨u, rfl, ru⟩ := vals1 r
  obtain ⟨o, ho⟩ := hs
  have hsys : H sysModules = none := (I.bs _ _ ho).2
  have nsys : ∀ {as : List Addr}, (∀ a ∈ as, H a ≠ none) → sysModules ∉ as := fun z hm => z _ hm hsys
  cases hd with
  | non =>
    cases (show u = Value.none from ru)
    exact P.repr_of_none ⟨.str _, H, I.tok _, ⟨_, rfl⟩, by simpa only [PyData.shown] using q⟩
  | bl b =>
    cases (show u = Value.bool b from ru)
    exact P.repr_of_bool ⟨.str _, H, I.tok _, ⟨_, rfl⟩, by simpa only [PyData.shown] using q⟩
  | int i =>
    obtain ⟨t, rfl⟩ := ru
    exact P.repr_of_int (by simpa [PyData.showable] using h1) ⟨.str _, H, I.tok _, ⟨_, rfl⟩, by simpa only [PyData.shown] using q⟩
  | str x =>
    obtain ⟨t, rfl⟩ := ru
    exact P.repr_of_str ⟨.str _, H, I.tok _, ⟨_, rfl⟩, by simpa only [PyData.shown] using q⟩ (by simpa only [PyData.shown] using h3)
  | lst e w =>
    cases (show u = Value.ref _ from ru)
    obtain ⟨as, hr, hn⟩ := Da.reads I (.lst e w) rfl
    exact repr_of_reads' hr h1 (fun _ => nsys hn) hg (by omega) (fun _ _ z => z) (fun h' u tk k => ⟨.str _, H, I.kept k, ⟨_, rfl⟩, q⟩) h3
  | tup e w =>
    cases (show u = Value.ref _ from ru)
    obtain ⟨as, hr, hn⟩ := Da.reads I (.tup e w) rfl
    exact repr_of_reads' hr h1 (fun _ => nsys hn) hg (by omega) (fun _ _ z => z) (fun h' u tk k => ⟨.str _, H, I.kept k, ⟨_, rfl⟩, q⟩) h3
  | dic e w =>
    cases (show u = Value.ref _ from ru)
    obtain ⟨as, hr, hn⟩ := Da.reads I (.dic e w) rfl
    exact repr_of_reads' hr h1 (fun _ => nsys hn) hg (by omega) (fun _ _ z => z) (fun h' u tk k => ⟨.str _, H, I.kept k, ⟨_, rfl⟩, q⟩) h3
end
end VK
namespace VK
open PySem PySem.Spec PyProof.Rows L2
/-! ### defs around which no repr runs (the guards are known to be none) -/
section
variable (P : Program) (w : World) (K : PySem.W.Frag) (mg : Str → Option Value) (base : Heap) (CX : CXT)
structure FnG (k : Nat) (f : Addr) (fd : FuncData) (ps : List Str) (sp : Sp) : Prop where
  args : ∀ vs H Q E, sp vs H Q E → vs.length = ps.length
  go : ∀ {A : Around} {outer : List Env} {s : Shared} {H : Hp} {a : Args} {us : List Value} {vs : List V} {Q : VK} {E : XK},
    A.guards = some [] → Room k A → Env0 P w K mg base A outer s H → BindsTo s fd a (ps.zip us) → Vals vs us → sp vs H Q E →
    codeAny (model P w) A (.call (.ref f) a) (CR CX outer P w H s Q E) s
end
section
variable {P : Program} {w : World} {K : PySem.W.Frag} {mg : Str → Option Value} {base : Heap} {CX : CXT}
theorem FnG.of {k : Nat} {f : Addr} {fd : FuncData} {ps : List Str} {sp : Sp} (F : FnOk P w K mg base CX k f fd ps sp) : FnG P w K mg base CX k f fd ps sp :=
  ⟨F.len, fun _ r e b v h => F.run _ _ _ _ _ _ _ _ _ r e b v h⟩
theorem FnG.mono {j k : Nat} {f : Addr} {fd : FuncData} {ps : List Str} {sp : Sp} (F : FnG P w K mg base CX j f fd ps sp) (h : j ≤ k) : FnG P w K mg base CX k f fd ps sp :=
  ⟨F.args, fun g r e b v q => F.go g (r.mono h) e b v q⟩
theorem okG {x qual : Str} {st : Stmt} {f : Addr} {fd : FuncData} {N ps : List Str} {k : Nat} {sp : Sp} (F : Fun K x qual st f fd) (S : FnScope N ps (defScope st))
    (ln : ∀ vs H Q E, sp vs H Q E → vs.length = ps.length)
    (body : ∀ (cdv : Value) (A : Around) (outer : List Env) (s : Shared) (H : Hp) (vs : List V) (Q : VK) (E : XK),
      A.guards = some [] → Room k (A.deeper (envOfC qual (defScope st) s.heap.objs.size f cdv)) → sp vs H Q E →
      ∃ t, PSs (cxOf CX0 P w K mg base N qual (defScope st) f cdv A outer s H E).nox (defBody st) t ∧ t { nx := fun _ H' => Q .non H', rt := Q } (start N vs) H) :
    FnG P w K mg base CX0 (k + 1) f fd ps sp := by
  obtain ⟨oc, od, kV, doc, pm, an, cdv, ct, osl, e, lk, hcd⟩ := F.ex
  subst e
  refine ⟨ln, ?_⟩
  intro A outer s H a us vs Q E gA room ev bd rel sps
  have inK := ev.mod.kin.keeps fun b o z => (ev.bs b o z).1
  have nolim := ev.mod.nolimit.keeps fun b o z => (ev.bs b o z).1
  have lens := ln _ _ _ _ sps
  have kinds : ∀ y ∈ ps.zip us, (defScope st).names.lookup y.1 = some .local ∨
      ((defScope st).names.lookup y.1 = some .cell ∧ ((cellsFrom (s.heap.objs.size + 1) (defScope st).names []).lookup y.1).isSome = true) := by
    intro y hy
    have hm : y.1 ∈ ps := (List.of_mem_zip (show (y.1, y.2) ∈ ps.zip us from hy)).1
    exact (S.par y.1 hm).imp _root_.id fun z => ⟨z, PySem.W.cellsFrom_some _ _ _ (.inl z)⟩
  refine codeAny_call_function room.depth (inK _ _ lk) rfl S.co S.gen rfl (PySem.W.codeRec_of inK hcd) (bd _ _ _ _ ?_)
  refine wpAny_newFunctionEnv_cells S.kind kinds ?_
  rintro env rfl s1 inC
  refine ⟨nolim.keeps inC.toInCall.keep, codeAny_func ?_⟩
  obtain ⟨t, ht, hq⟩ := body cdv A outer s H vs Q E gA (room.deeper _) sps
  have J := inv_start (CX := CX0) (mg := mg) (base := base) (E := E) S room.hd ev lens rel inC
  refine wpAny_mono (ht.nox.run [] s1 (start N vs) H _ J hq) ?_ fun _ _ z => z
  intro fl s' hs
  match fl, hs with
  | .ret u, hs => obtain ⟨v, σ', H', J', rv, q⟩ := hs; exact ⟨v, H', J'.os, J'.bare, J'.base, J'.hok, rv, q⟩
  | .next, hs => obtain ⟨σ', H', J', q⟩ := hs; exact ⟨.non, H', J'.os, J'.bare, J'.base, J'.hok, rfl, q⟩
  | .brk, hs => obtain ⟨_, _, _, q⟩ := hs; exact q.elim
  | .cont, hs => obtain ⟨_, _, _, q⟩ := hs; exact q.elim
end
section
variable {X : Cx} {CX : CXT} {k : Nat} {f : Addr} {fd : FuncData} {ps : List Str} {sp : Sp} {dvs : List V} {ds : List Value} {E : XK} {x : Str} {p pos : Pos} {e : Expr} {es : List Expr} {t : TA}
/-- f(e, ..), f such a def -/
theorem pe_callG (hga : X.A.guards = some []) (F : FnG X.prog X.w X.K X.mg X.base CX k f fd ps sp) (room : Room k X.A) (gl : Gl X x) (at_ : X.mg x = some (.ref f)) (kp : PySem.W.keepIn X.K (.ref f) = true) (bd : Binds X.K fd ps ds) (dv : Vals dvs ds) (pa : Passes CX X E)
    (args : PA X (e :: es) t) (nd : (x == ("__debug__" : Str)) = false := by decide) (st : starEach (e :: es) X.env = (false, eval e X.env) :: starEach es X.env := by rfl) (pl : (backTo pos (starEach es X.env)).any (·.1) = false := by rfl) :
    PE X (.Call (.Name x p) (e :: es) [] pos) (tCall sp dvs E t) := by
  constructor
  intro pins s σ H Q I h
  refine wpAny_Call_Name_kw (ld_glob I gl at_ ?_ nd)
  refine PySem.W.callWith_K (h₀ := X.base) I.ok.mod.kin kp (thn (args.run pos pins s σ H _ I h) ?_) st pl
  intro us s1 ⟨vs, H1, I1, r, q⟩
  refine ⟨I1.kIn, ?_⟩
  have rel : Vals (vs ++ dvs) (us ++ ds) := r.append dv
  have hl : (us ++ ds).length = ps.length := rel.length.symm.trans (F.args _ _ _ _ q)
  refine wpAny_call (codeAny_mono (F.go hga room I1.env0 (bd s1 us I1.kIn hl) rel q) ?_)
  intro r s' hq
  match r, hq with
  | .error e, hq => exact pa pins σ H1 s1 e s' I1 hq
  | .ok (.ret u), hq => exact I1.after hq
  | .ok .next, hq => exact hq.elim
  | .ok .brk, hq => exact hq.elim
  | .ok .cont, hq => exact hq.elim
end
end VK
namespace VK
open PySem PySem.Spec PyProof.Rows L2
/-! ### the end of a law whose def is such a one -/
section
variable {P : Program} {w : World} {K : PySem.W.Frag} {mg mb : Str → Option Value} {k : Nat} {fa a : Addr} {fd : FuncData} {x : Str} {sp : Sp} {s₁ : Shared} {vs : List Value} {ns : List Int}
def Done (s₁ : Shared) (r : Result) (s' : Shared) : Prop := r = .ok (.ret (.bool true)) ∧ OldK s₁.heap s'.heap ∧ s'.os = s₁.os ∧ AllBare s'.gens
/-- over one abstract heap: only the script may stand in it -/
theorem end_core (KX : K.In s₁.heap) (hns : s₁.heap.Ns mainGlobals mg) (hb : s₁.heap.Ns builtinsNs mb) (hbb : ∀ y : Str, y ≠ "__name__" → mb y = bootBuiltins y) (hlim : s₁.heap.NoLimit) (hg : s₁.gens = #[])
    (ha : s₁.heap.get? a = some { cls := .type "list", data := .seq vs.toArray }) (room : Room k callerA)
    (hm : ∃ m, s₁.heap.Ns sysModules m) (F : ∀ base : Heap, K.In base → base.Ns mainGlobals mg → (∃ o, base.get? sysModules = some o) → FnG P w K mg base CX0 k fa fd [x] sp) (bd : ∀ (s : Shared) (u : Value), BindsTo s fd ⟨[u], []⟩ [(x, u)])
    {H : Hp} (hO : Only H) (hsp : sp [.ref a] H (fun v _ => v = .bl true) fun _ _ _ => False) (hok : HOk P w H s₁.heap) (hA : ∀ b, H b ≠ none → b = a) (hK : H a ≠ none → K.lookup a = none) :
    codeAny (model P w) callerA (.call (.ref fa) ⟨[.ref a], []⟩) (Done s₁) s₁ := by
  have at_a : ∀ {b u}, H b = some u → b = a := fun z => hA _ (by rw [z]; exact fun q => nomatch q)
  have none_of_dict : ∀ {b o es ep}, s₁.heap.get? b = some o → o.data = Data.dict es ep → H b = none := by
    intro b o es ep e d
    match q : H b with
    | none => rfl
    | some u =>
      rw [at_a q, ha] at e
      cases e
      cases (show Data.seq vs.toArray _ = Data.dict es ep from d)
  have ns_ : ∀ {b m}, s₁.heap.Ns b m → (hidT s₁.heap H).Ns b m := by
    rintro b m ⟨o, es, ep, e, d, r⟩
    exact ⟨o, es, ep, hidT_get e (none_of_dict e d), d, r⟩
  have kin_ : K.In (hidT s₁.heap H) := by
    intro b o e
    refine hidT_get (KX b o e) ?_
    match q : H b with
    | none => rfl
    | some u =>
      have z := at_a q
      subst z
      rw [hK (by rw [q]; exact fun z => nomatch z)] at e
      cases e
  obtain ⟨mc, l1, l2⟩ := hlim
  have ev : Env0 P w K mg (hidT s₁.heap H) callerA [] s₁ H :=
    { frames := rfl, mod := ⟨kin_, ns_ hns, ⟨mb, ns_ hb, hbb⟩, ⟨mc, ns_ l1, l2⟩⟩, bs := fun b o e => of_hidT e, bsz := Nat.le_of_eq (hidT_size _ _), funs := trivial, frf := (fun b z => nomatch (show b ∈ ([] : List Addr) from z)), hok := hok, bare := .of_eq hg }
  have sysB : ∃ o, (hidT s₁.heap H).get? sysModules = some o := by
    obtain ⟨m, z⟩ := hm
    obtain ⟨o, es, ep, e, _⟩ := ns_ z
    exact ⟨o, e⟩
  refine codeAny_mono ((F _ kin_ (ns_ hns) sysB).go (us := [.ref a]) (vs := [.ref a]) rfl room ev (bd s₁ (.ref a)) (.cons rfl .nil) hsp) ?_
  intro r s' h
  match r, h with
  | .error e, h => exact h.elim
  | .ok .next, h => exact h.elim
  | .ok .brk, h => exact h.elim
  | .ok .cont, h => exact h.elim
  | .ok (.ret u), h =>
    obtain ⟨v, H', os, bare, un, hok', rv, q⟩ := h
    cases (show v = .bl true from q)
    cases (show u = Value.bool true from rv)
    refine ⟨rfl, OldK.of_keep ?_, os, bare⟩
    intro b o e
    match q : H b with
    | none => exact un.keep b o e q (fun z => nomatch (show b ∈ ([] : List Addr) from z)) (fun z => nomatch z)
    | some u =>
      rcases hO b with z | z
      · rw [q] at z
        cases z
      · obtain ⟨ob, xs, z⟩ := z
        have e1 := (hok b _ z).1
        rw [e] at e1
        cases e1
        exact (hok' b _ (un.frzs b _ _ z)).1
theorem end_call (KX : K.In s₁.heap) (hns : s₁.heap.Ns mainGlobals mg) (hb : s₁.heap.Ns builtinsNs mb) (hbb : ∀ y : Str, y ≠ "__name__" → mb y = bootBuiltins y) (hlim : s₁.heap.NoLimit) (hg : s₁.gens = #[])
    (ha : s₁.heap.get? a = some { cls := .type "list", data := .seq vs.toArray }) (hi : IntsAre vs ns) (hl : ns.length ≤ sizeLine) (room : Room k callerA)
    (hm : ∃ m, s₁.heap.Ns sysModules m) (F : ∀ base : Heap, K.In base → base.Ns mainGlobals mg → (∃ o, base.get? sysModules = some o) → FnG P w K mg base CX0 k fa fd [x] sp) (bd : ∀ (s : Shared) (u : Value), BindsTo s fd ⟨[u], []⟩ [(x, u)])
    (hsp : ∀ H : Hp, Only H → SqL K H a (ns.map V.int) → sp [.ref a] H (fun v _ => v = .bl true) fun _ _ _ => False) :
    codeAny (model P w) callerA (.call (.ref fa) ⟨[.ref a], []⟩) (Done s₁) s₁ := by
  have rv := vals_ints hi
  have lv := hi.length
  match hk : K.lookup a with
  | some o =>
    have e := KX a o hk
    rw [ha] at e
    cases e
    have o0 : Only fun _ => none := fun _ => .inl rfl
    refine end_core KX hns hb hbb hlim hg ha room hm F bd o0 (hsp _ o0 (.inr ⟨_, vs.toArray, _, hk, rfl, rfl, rfl, ?_, by simpa using rv⟩)) ?_ (fun b z => absurd rfl z) fun z => absurd rfl z
    · rw [List.size_toArray, lv]
      exact hl
    · intro b u z
      cases (show (none : Option HO) = some u from z)
  | none =>
    have o1 : Only fun b => if b = a then some (.frz { cls := .type "list", data := .seq vs.toArray } (.lst (ns.map V.int))) else none := fun b => by
      by_cases z : b = a
      · exact .inr ⟨_, _, if_pos z⟩
      · exact .inl (if_neg z)
    refine end_core KX hns hb hbb hlim hg ha room hm F bd o1 (hsp _ o1 (.inl (.inr ⟨_, if_pos rfl⟩))) ?_ ?_ fun _ => hk
    · intro b u z
      by_cases hz : b = a
      · cases (if_pos hz).symm.trans z
        subst hz
        exact ⟨ha, by rw [List.length_map]; exact hl, vs, _, rv, ha⟩
      · cases (if_neg hz).symm.trans z
    · intro b z
      by_cases hz : b = a
      · exact hz
      · exact absurd (if_neg hz) z
end
/-- walk_ofB for such a law -/
theorem walk_g {l : PySem.W.OpenLaw} {n k : Nat} {q : Program} {loose : List Str} {XP : (Str → Option Value) → Heap → Prop} {YP : World → Heap → Prop} {d : DefRec} {K : Params → PySem.W.Frag} {sp : World → Sp} {x : Str}
    (hq : importsNone q = true) (hn : l.most = some n) (hn2 : n ≤ sizeLine) (hdf : d.params.defaults = []) (room : Room k callerA) (hY : ∀ (w : World) (h : Heap), YP w h → (K w.params).In h)
    (F : ∀ (w : World) (mg : Str → Option Value) (fa : Addr) (h : Heap), (K w.params).In h → h.Ns mainGlobals mg → mg d.name = some (.ref fa) →
      ∃ fd : FuncData, (∀ (s : Shared) (u : Value), BindsTo s fd ⟨[u], []⟩ [(x, u)]) ∧
        ∀ base : Heap, (K w.params).In base → base.Ns mainGlobals mg → (∃ o, base.get? sysModules = some o) → FnG l.prog w (K w.params) mg base CX0 k fa fd [x] (sp w))
    (hsp : ∀ (w : World) (H : Hp) (a : Addr) (ns : List Int), ns.length ≤ n → (∀ z ∈ ns, Builtin.Int.intBits z ≤ 1048576) → Only H → SqL (K w.params) H a (ns.map V.int) → sp w [.ref a] H (fun v _ => v = .bl true) fun _ _ _ => False) :
    PySem.W.WalkO q loose XP YP l.row.toRowW d [] (fun f vs => PySem.call f vs) := by
  refine Att.attach_callB hn hdf ?_
  intro w s₀ s₁ mg mb fa o pm cd doc a vs ns G Y ho hd hcd hmg hobj hints hlen hbits hg
  obtain ⟨fd, hb, hF⟩ := F w mg fa _ (hY w _ Y) G.T.g hmg
  exact end_call (hY w _ Y) G.T.g G.T.b G.T.builtins G.T.nolimit hg hobj hints (Nat.le_trans hlen hn2) room ((G.T.seer hq).mods.imp fun _ z => z.1) hF hb fun H hO hS => hsp w H a ns hlen hbits hO hS
end VK
namespace VK
open PySem PySem.Spec PyProof.Rows L2
/-! ### displays of written values and of names whose values are known data -/
abbrev Env1 := List (Nat × PyData)
mutual
inductive Lit (N : List Str) (sc : Scope) (ρ : Env1) : Expr → PyData → Prop
  | non {j p} : Lit N sc ρ (.Constant .none j p) .none
  | bl {b j p} : Lit N sc ρ (.Constant (.bool b) j p) (.bool b)
  | int {i j p} : Lit N sc ρ (.Constant (.int i) j p) (.int i)
  | str {x j p} : Lit N sc ρ (.Constant (.str x) j p) (.str x)
  | neg {e i p} : Lit N sc ρ e (.int i) → Lit N sc ρ (.UnaryOp .USub e p) (.int (-i))
  | pow {e f i j p} : Lit N sc ρ e (.int i) → Lit N sc ρ f (.int j) → CPow i j → Lit N sc ρ (.BinOp e .Pow f p) (.int (i ^ j.toNat))
  | add {e f i j p} : Lit N sc ρ e (.int i) → Lit N sc ρ f (.int j) → Lit N sc ρ (.BinOp e .Add f p) (.int (i + j))
  | sub {e f i j p} : Lit N sc ρ e (.int i) → Lit N sc ρ f (.int j) → Lit N sc ρ (.BinOp e .Sub f p) (.int (i - j))
  | tup {es ds k p} : LitAll N sc ρ es ds → ds.length ≤ 1000 → Lit N sc ρ (.Tuple es k p) (.tuple ds)
  | lst {es ds p} : LitAll N sc ρ es ds → ds.length ≤ 1000 → Lit N sc ρ (.List es p) (.list ds)
  | dic0 {p} : Lit N sc ρ (.Dict [] [] p) (.dict [])
  | dic1 {x e i j p p'} : Lit N sc ρ e (.int i) → Lit N sc ρ (.Dict [some (.Constant (.str x) j p')] [e] p) (.dict [(.str x, .int i)])
  | var {x d p} (i : Nat) : N[i]? = some x → Vis sc x → (i, d) ∈ ρ → (x == ("__debug__" : Str)) = false → (x == ("__classdict__" : Str)) = false → Lit N sc ρ (.Name x p) d
inductive LitAll (N : List Str) (sc : Scope) (ρ : Env1) : List Expr → List PyData → Prop
  | nil : LitAll N sc ρ [] []
  | cons {e es d ds} : Lit N sc ρ e d → LitAll N sc ρ es ds → LitAll N sc ρ (e :: es) (d :: ds)
end
/-- the slots of ρ hold these data -/
def Holds1 (ρ : Env1) (σ : L2.St) (H : Hp) : Prop := ∀ p ∈ ρ, ∃ v, σ[p.1]? = some (some v) ∧ Da H v p.2
theorem Holds1.same {ρ : Env1} {σ : L2.St} {H H' : Hp} (h : Holds1 ρ σ H) (e : Same H H') : Holds1 ρ σ H' := fun p hp => by
  obtain ⟨v, e1, e2⟩ := h p hp
  exact ⟨v, e1, e2.same e⟩
/-- G, and what is new behind H -/
def plus (G H H' : Hp) : Hp := fun a => match G a with
  | some o => some o
  | none => match H a with
    | some _ => none
    | none => H' a
def tLit (ρ : Env1) (d : PyData) : TE := fun σ H Q => ∃ G, Same G H ∧ Holds1 ρ σ G ∧ ∀ v H', Same H H' → Da (plus G H H') v d → Q v H'
def tLits (ρ : Env1) (ds : List PyData) : TA := fun σ H Q => ∃ G, Same G H ∧ Holds1 ρ σ G ∧ ∀ vs H', Same H H' → DaAll (plus G H H') vs ds → Q vs H'
theorem plus_cases {G H H' : Hp} {a : Addr} {o : HO} (h : plus G H H' a = some o) : G a = some o ∨ (G a = none ∧ H a = none ∧ H' a = some o) := by
  unfold plus at h
  cases g : G a with
  | some u =>
    rw [g] at h
    exact .inl h
  | none =>
    rw [g] at h
    cases z : H a with
    | some u =>
      rw [z] at h
      cases h
    | none =>
      rw [z] at h
      exact .inr ⟨rfl, rfl, h⟩
theorem plus_old {G H H' : Hp} {a : Addr} {o : HO} (h : G a = some o) : plus G H H' a = some o := by
  unfold plus
  rw [h]
theorem plus_new {G H H' : Hp} {a : Addr} {o : HO} (g : G a = none) (z : H a = none) (h : H' a = some o) : plus G H H' a = some o := by
  unfold plus
  rw [g, z]
  exact h
theorem plus_refl {G H : Hp} : Same G (plus G H H) := fun _ _ h => plus_old h
theorem plus_mono {G H H1 H2 : Hp} (s : Same H1 H2) : Same (plus G H H1) (plus G H H2) := fun a o h => by
  rcases plus_cases h with z | ⟨z1, z2, z3⟩
  · exact plus_old z
  · exact plus_new z1 z2 (s _ _ z3)
theorem plus_later {G H H1 H2 : Hp} (s : Same H H1) : Same (plus G H1 H2) (plus G H H2) := fun a o h => by
  rcases plus_cases h with z | ⟨z1, z2, z3⟩
  · exact plus_old z
  · exact plus_new z1 (s.free z2) z3
theorem plus_in {G H H' : Hp} (g : Same G H) (s : Same H H') : Same (plus G H H') H' := fun a o h => by
  rcases plus_cases h with z | ⟨_, _, z3⟩
  · exact s _ _ (g _ _ z)
  · exact z3
theorem plus_at {G H H' : Hp} {p : Addr} {o : HO} (g : Same G H) (s : Same H H') (np : H' p = none) : plus G H (upd H' p o) p = some o := plus_new (g.free (s.free np)) (s.free np) upd_same
theorem same_new {H : Hp} {p : Addr} {o : HO} (h : H p = none) : Same H (upd H p o) := fun b u q => by
  rw [upd_ne (ne_of_none q h)]
  exact q
theorem PE.imp {X : Cx} {e : Expr} {t t' : TE} (h : PE X e t) (i : ∀ σ H Q, t' σ H Q → t σ H Q) : PE X e t' := ⟨fun pins s σ H Q I q => h.run pins s σ H Q I (i σ H Q q)⟩
theorem PA.imp {X : Cx} {es : List Expr} {t t' : TA} (h : PA X es t) (i : ∀ σ H Q, t' σ H Q → t σ H Q) : PA X es t' := ⟨fun pos pins s σ H Q I q => h.run pos pins s σ H Q I (i σ H Q q)⟩
theorem Da.int_inv {H : Hp} {v : V} {i : Int} (h : Da H v (.int i)) : v = .int i := by
  cases h
  rfl
mutual
theorem pe_lit {X : Cx} {ρ : Env1} : ∀ {e : Expr} {d : PyData}, Lit X.N X.env.scope ρ e d → PE X e (tLit ρ d)
  | _, _, .non => PE.imp pe_non fun σ H Q ⟨G, _, _, q⟩ => q _ _ (Same.refl H) .non
  | _, _, .bl => PE.imp pe_bl fun σ H Q ⟨G, _, _, q⟩ => q _ _ (Same.refl H) (.bl _)
  | _, _, .int => PE.imp pe_int fun σ H Q ⟨G, _, _, q⟩ => q _ _ (Same.refl H) (.int _)
  | _, _, .str => PE.imp pe_str fun σ H Q ⟨G, _, _, q⟩ => q _ _ (Same.refl H) (.str _)
  | _, _, .neg h => PE.imp (pe_un un_neg (pe_lit h)) fun σ H Q ⟨G, g, hl, q⟩ => ⟨G, g, hl, fun v H' s d => ⟨_, d.int_inv, q _ _ s (.int _)⟩⟩
  | _, _, .pow h1 h2 c => PE.imp (pe_op op_pow (pe_lit h1) (pe_lit h2)) fun σ H Q ⟨G, g, hl, q⟩ => ⟨G, g, hl, fun v H' s d => ⟨G, g.trans s, hl, fun v2 H2 s2 d2 => ⟨_, _, d.int_inv, d2.int_inv, c, q _ _ (s.trans s2) (.int _)⟩⟩⟩
  | _, _, .add h1 h2 => PE.imp (pe_op op_add (pe_lit h1) (pe_lit h2)) fun σ H Q ⟨G, g, hl, q⟩ => ⟨G, g, hl, fun v H' s d => ⟨G, g.trans s, hl, fun v2 H2 s2 d2 => ⟨_, _, d.int_inv, d2.int_inv, q _ _ (s.trans s2) (.int _)⟩⟩⟩
  | _, _, .sub h1 h2 => PE.imp (pe_op op_sub (pe_lit h1) (pe_lit h2)) fun σ H Q ⟨G, g, hl, q⟩ => ⟨G, g, hl, fun v H' s d => ⟨G, g.trans s, hl, fun v2 H2 s2 d2 => ⟨_, _, d.int_inv, d2.int_inv, q _ _ (s.trans s2) (.int _)⟩⟩⟩
  | _, _, .tup h z => PE.imp (pe_tup (pa_lit h)) fun σ H Q ⟨G, g, hl, q⟩ => ⟨G, g, hl, fun vs H' s d => ⟨by rw [d.length]; exact Nat.le_of_lt (small1000 z), fun p np => q _ _ (s.trans (same_new np)) (.tup (plus_at g s np) (d.same (plus_mono (same_new np))))⟩⟩
  | _, _, .lst h z => PE.imp (pe_lst (pa_lit h)) fun σ H Q ⟨G, g, hl, q⟩ => ⟨G, g, hl, fun vs H' s d => ⟨by rw [d.length]; exact Nat.le_of_lt (small1000 z), fun p np => q _ _ (s.trans (same_new np)) (.lst (plus_at g s np) (d.same (plus_mono (same_new np))))⟩⟩
  | _, _, .dic0 => PE.imp pe_dnewK fun σ H Q ⟨G, g, hl, q⟩ => fun p np => q _ _ (same_new np) (.dic (kvs := []) (ds := []) (plus_at g (Same.refl H) np) .nil)
  | _, _, .dic1 (x := x) (i := i) h => PE.imp (pe_disp (pps_cons pe_str (pe_lit h) pps_nil) rfl rfl (fun z => nomatch z) (by simp)) fun σ H Q ⟨G, g, hl, q⟩ => fun p np =>
      ⟨G, g.trans (same_new np), hl, fun v H' s dv => by
        refine ⟨s _ _ upd_same, [(.inr x, v)], rfl, Nat.le_of_ble_eq_true rfl, ?_⟩
        have s2 : Same H (upd H' p (.dK (mergeK [] [(.inr x, v)]))) := fun b o e => by
          rw [upd_ne (ne_of_none e np)]
          exact s _ _ (same_new np _ _ e)
        have ev := dv.int_inv
        subst ev
        exact q _ _ s2 (.dic (kvs := [(.inr x, .int i)]) (ds := [.int i]) (plus_new (g.free np) np upd_same) (.cons (.int i) .nil))⟩
  | _, _, .var i hN hv hm h1 h2 => PE.imp (pe_var hN hv h1 h2) fun σ H Q ⟨G, g, hl, q⟩ => by
      obtain ⟨v, e1, e2⟩ := hl _ hm
      exact ⟨v, e1, q _ _ (Same.refl H) (e2.same plus_refl)⟩
theorem pa_lit {X : Cx} {ρ : Env1} : ∀ {es : List Expr} {ds : List PyData}, LitAll X.N X.env.scope ρ es ds → PA X es (tLits ρ ds)
  | _, _, .nil => PA.imp pa_nil fun σ H Q ⟨G, g, hl, q⟩ => q _ _ (Same.refl H) .nil
  | _, _, .cons h hs => PA.imp (pa_cons (pe_lit h) (pa_lit hs) (by cases h <;> rfl)) fun σ H Q ⟨G, g, hl, q⟩ =>
      ⟨G, g, hl, fun v H' s d => ⟨G, g.trans s, hl, fun vs H2 s2 ds2 => q _ _ (s.trans s2) (.cons (d.same (plus_mono s2)) (ds2.same (plus_later s)))⟩⟩
end
end VK
namespace VK
open PySem PySem.Spec PyProof.Rows L2
/-! ### isinstance of data -/
def kindD : PyData → String
  | .none => "NoneType"
  | .bool _ => "bool"
  | .int _ => "int"
  | .str _ => "str"
  | .list _ => "list"
  | .tuple _ => "tuple"
  | .dict _ => "dict"
theorem kind_of {K : PySem.W.Frag} {H : Hp} {v : V} {d : PyData} (h : Da H v d) : TyX K H v (.type (kindD d)) := by
  cases h with
  | non => exact .base .non
  | bl b => exact .base (.bl b)
  | int i => exact .base (.int i)
  | str x => exact .base (.str x)
  | lst e _ => exact .base (.lst e)
  | tup e _ => exact .base (.tup e)
  | dic e _ => exact .base (.dK e)
def isI : PyData → Bool
  | .int _ => true
  | .bool _ => true
  | _ => false
def isBo : PyData → Bool
  | .bool _ => true
  | _ => false
def isT : PyData → Bool
  | .tuple _ => true
  | _ => false
def isS : PyData → Bool
  | .str _ => true
  | _ => false
def isL : PyData → Bool
  | .list _ => true
  | _ => false
theorem kit_int (d : PyData) : kitB (kindD d) "int" = some (isI d) := by cases d <;> (dsimp only [kindD, isI]; decide +kernel)
theorem kit_bool (d : PyData) : kitB (kindD d) "bool" = some (isBo d) := by cases d <;> (dsimp only [kindD, isBo]; decide +kernel)
theorem kit_tuple (d : PyData) : kitB (kindD d) "tuple" = some (isT d) := by cases d <;> (dsimp only [kindD, isT]; decide +kernel)
theorem kit_str (d : PyData) : kitB (kindD d) "str" = some (isS d) := by cases d <;> (dsimp only [kindD, isS]; decide +kernel)
theorem kit_list (d : PyData) : kitB (kindD d) "list" = some (isL d) := by cases d <;> (dsimp only [kindD, isL]; decide +kernel)
def rIsD : List V → Hp → VK → Prop := fun xs H Q => ∃ v d n b, xs = [v, .ty n] ∧ Da H v d ∧ kitB (kindD d) n = some b ∧ Q (.bl b) H
theorem call_isD {X : Cx} : CallR X (.builtin "isinstance") rIsD := by
  intro pins s σ H xs us Q I r h
  obtain ⟨v, d, n, b, rfl, hd, hk, q⟩ := h
  exact call_isi pins s σ H _ us Q I r ⟨v, .ty n, _, _, b, rfl, .ty n, kind_of hd, kit_ty hk, q⟩

/-! ### defs by name -/
structure DefAt (K : PySem.W.Frag) (mg : Str → Option Value) (x : Str) (st : Stmt) (ps : List Str) : Prop where
  ex : ∃ f fd, Fun K x x st f fd ∧ Binds K fd ps [] ∧ mg x = some (.ref f)
structure CalG (P : Program) (w : World) (K : PySem.W.Frag) (mg : Str → Option Value) (base : Heap) (k : Nat) (x : Str) (sp : Sp) : Prop where
  ex : ∃ f fd ps, FnG P w K mg base CX0 k f fd ps sp ∧ mg x = some (.ref f) ∧ PySem.W.keepIn K (.ref f) = true ∧ Binds K fd ps []
theorem CalG.imp {P w K mg base k x} {sp sp' : Sp} (c : CalG P w K mg base k x sp) (h : ∀ vs H Q E, sp' vs H Q E → sp vs H Q E) : CalG P w K mg base k x sp' := by
  obtain ⟨f, fd, ps, F, m, kp, b⟩ := c.ex
  exact ⟨f, fd, ps, ⟨fun vs H Q E z => F.args vs H Q E (h _ _ _ _ z), fun g r e bd v z => F.go g r e bd v (h _ _ _ _ z)⟩, m, kp, b⟩
theorem pe_cg {X : Cx} {k j : Nat} {x : Str} {p pos : Pos} {e : Expr} {es : List Expr} {t : TA} {sp : Sp} (c : CalG X.prog X.w X.K X.mg X.base k x sp) (hga : X.A.guards = some []) (room : Room j X.A) (hk : k ≤ j) (gl : Gl X x)
    (args : PA X (e :: es) t) (nd : (x == ("__debug__" : Str)) = false := by decide) (st : starEach (e :: es) X.env = (false, eval e X.env) :: starEach es X.env := by rfl) (pl : (backTo pos (starEach es X.env)).any (·.1) = false := by rfl) :
    PE X (.Call (.Name x p) (e :: es) [] pos) (tCall sp [] E0 t) := by
  obtain ⟨f, fd, ps, F, m, kp, b⟩ := c.ex
  exact pe_callG hga F (room.mono hk) gl m kp b .nil pass0 args nd st pl
theorem def_ok {P : Program} {w : World} {K : PySem.W.Frag} {mg : Str → Option Value} {base : Heap} {x : Str} {st : Stmt} {N ps : List Str} {k : Nat} {sp : Sp} (D : DefAt K mg x st ps) (S : FnScope N ps (defScope st))
    (ln : ∀ vs H Q E, sp vs H Q E → vs.length = ps.length)
    (body : ∀ (f : Addr) (cdv : Value) (A : Around) (outer : List Env) (s : Shared) (H : Hp) (vs : List V) (Q : VK) (E : XK),
      A.guards = some [] → Room k (A.deeper (envOfC x (defScope st) s.heap.objs.size f cdv)) → sp vs H Q E →
      ∃ t, PSs (cxOf CX0 P w K mg base N x (defScope st) f cdv A outer s H E).nox (defBody st) t ∧ t { nx := fun _ H' => Q .non H', rt := Q } (start N vs) H) :
    CalG P w K mg base (k + 1) x sp := by
  obtain ⟨f, fd, F, b, m⟩ := D.ex
  exact ⟨f, fd, ps, okG F S ln (body f), m, F.kp, b⟩
/-- nothing can be asked with no call left -/
theorem none_left {P : Program} {w : World} {K : PySem.W.Frag} {mg : Str → Option Value} {base : Heap} {x : Str} {st : Stmt} {ps : List Str} {sp : Sp} (D : DefAt K mg x st ps) (no : ∀ vs H Q E, ¬ sp vs H Q E) : CalG P w K mg base 0 x sp := by
  obtain ⟨f, fd, F, b, m⟩ := D.ex
  exact ⟨f, fd, ps, ⟨fun vs H Q E z => (no _ _ _ _ z).elim, fun _ _ _ _ _ z => (no _ _ _ _ z).elim⟩, m, F.kp, b⟩

/-! ### a bag of draws at b, all else as it was -/
def off (b : Addr) (H : Hp) : Hp := fun a => if a = b then none else H a
def Keep (b : Addr) (H H' : Hp) : Prop := Same (off b H) (off b H')
theorem off_get {b a : Addr} {H : Hp} {o : HO} (h : off b H a = some o) : a ≠ b ∧ H a = some o := by
  unfold off at h
  by_cases e : a = b
  · rw [if_pos e] at h
    cases h
  · rw [if_neg e] at h
    exact ⟨e, h⟩
theorem off_put {b a : Addr} {H : Hp} {o : HO} (n : a ≠ b) (h : H a = some o) : off b H a = some o := by
  unfold off
  rw [if_neg n]
  exact h
theorem off_same {b : Addr} {H : Hp} : Same (off b H) H := fun _ _ h => (off_get h).2
theorem Keep.refl (b : Addr) (H : Hp) : Keep b H H := Same.refl _
theorem Keep.trans {b : Addr} {H H1 H2 : Hp} (x : Keep b H H1) (y : Keep b H1 H2) : Keep b H H2 := Same.trans x y
theorem Keep.of {b : Addr} {H H' : Hp} (s : Same H H') : Keep b H H' := fun a o h => off_put (off_get h).1 (s _ _ (off_get h).2)
theorem Keep.at {b : Addr} {H : Hp} {o : HO} : Keep b H (upd H b o) := fun a u h => off_put (off_get h).1 (by rw [upd_ne (off_get h).1]; exact (off_get h).2)
def BagAt (b : Addr) (H : Hp) : Prop := ∃ g s n : Int, H b = some (.lst [.int g, .int s, .int n]) ∧ 0 ≤ g ∧ 0 ≤ s ∧ s < 2305843009213693952 ∧ 0 ≤ n
theorem BagAt.same {b : Addr} {H H' : Hp} (h : BagAt b H) (s : Same H H') : BagAt b H' := by
  obtain ⟨g, x, n, e, r⟩ := h
  exact ⟨g, x, n, s _ _ e, r⟩
/-- what is new beside a bag is off it -/
theorem off_new {b p : Addr} {H : Hp} {o : HO} (h : BagAt b H) (np : H p = none) : off b (upd H p o) p = some o := by
  obtain ⟨g, x, n, e, r⟩ := h
  exact off_put (fun z => by rw [z, e] at np; cases np) upd_same
/-- data that were made beside a bag are off it -/
def spDraw : Sp := fun vs H Q _ => ∃ b m, vs = [.ref b, .int m] ∧ BagAt b H ∧ 0 < m ∧ m < 1073741824 ∧ ∀ d H', Keep b H H' → BagAt b H' → 0 ≤ d → d < m → Q (.int d) H'
def spPick : Sp := fun vs H Q _ => ∃ b v ds, vs = [.ref b, v] ∧ BagAt b H ∧ Da (off b H) v (.list ds) ∧ ds ≠ [] ∧ ds.length ≤ 1000 ∧ ∀ r d H', Keep b H H' → BagAt b H' → d ∈ ds → Da (off b H') r d → Q r H'
end VK
namespace VK
open PySem PySem.Spec PyProof.Rows L2
theorem Da.tup_inv {H : Hp} {v : V} {ds : List PyData} (h : Da H v (.tuple ds)) : ∃ a xs, v = .ref a ∧ H a = some (.tup xs) ∧ DaAll H xs ds := by
  cases h with
  | tup e r => exact ⟨_, _, rfl, e, r⟩
theorem Da.lst_inv {H : Hp} {v : V} {ds : List PyData} (h : Da H v (.list ds)) : ∃ a xs, v = .ref a ∧ H a = some (.lst xs) ∧ DaAll H xs ds := by
  cases h with
  | lst e r => exact ⟨_, _, rfl, e, r⟩
theorem Da.str_inv {H : Hp} {v : V} {x : Str} (h : Da H v (.str x)) : v = .str x := by
  cases h
  rfl
end VK
namespace VK
open PySem PySem.Spec PyProof.Rows L2
/-- what was made beside a bag of data off it is off it -/
theorem plus_off {b : Addr} {H H' : Hp} (h : BagAt b H) (s : Same H H') : Same (plus (off b H) H H') (off b H') := fun a o e => by
  rcases plus_cases e with z | ⟨_, z2, z3⟩
  · exact off_put (off_get z).1 (s _ _ (off_get z).2)
  · obtain ⟨g, x, n, eb, _⟩ := h
    exact off_put (fun w => by rw [w, eb] at z2; cases z2) z3
theorem lit_off {b : Addr} {H H' : Hp} {v : V} {d : PyData} (h : BagAt b H) (s : Same H H') (x : Da (plus (off b H) H H') v d) : Da (off b H') v d := x.same (plus_off h s)
end VK

/-! VKit2: how deep and how long data are, as repr shows them -/
namespace VK
open PySem PySem.Spec PyProof.Rows L2
def lowS (x : Str) : Bool := x.cps.toList.all fun c => decide (c < 128)
theorem low_app {x y : Str} (hx : lowS x = true) (hy : lowS y = true) : lowS (x ++ y) = true := by
  unfold lowS at *
  rw [show (x ++ y).cps = x.cps ++ y.cps from rfl, Array.toList_append, List.all_append, hx, hy]
  rfl
theorem low_join {sep : Str} (hs : lowS sep = true) : ∀ {ts : List Str}, ts.all lowS = true → lowS (Str.join sep ts) = true
  | [], _ => rfl
  | [x], h => by
    have z : (lowS x && true) = true := h
    rw [Bool.and_true] at z
    exact z
  | x :: y :: r, h => by
    rw [List.all_cons, Bool.and_eq_true] at h
    exact low_app (low_app h.1 hs) (low_join hs h.2)
theorem low_tup {ts : List Str} (h : ts.all lowS = true) : lowS (tupleText ts) = true := by
  unfold tupleText
  refine low_app (low_app rfl (low_join rfl h)) ?_
  by_cases z : (ts.length == 1) = true
  · rw [if_pos z]
    rfl
  · rw [if_neg z]
    rfl
theorem len_tup : ∀ ts : List Str, (tupleText ts).length ≤ (ts.map fun t => t.length + 2).sum + 3 := by
  intro ts
  have j : ∀ ts : List Str, (Str.join ", " ts).length ≤ (ts.map fun t => t.length + 2).sum := by
    intro ts
    induction ts with
    | nil => exact Nat.zero_le _
    | cons x r ih =>
      cases r with
      | nil =>
        show x.length ≤ x.length + 2 + 0
        omega
      | cons y r =>
        rw [List.map_cons, List.sum_cons]
        show (x ++ ", " ++ Str.join ", " (y :: r)).length ≤ _
        rw [strLen_append, strLen_append]
        have e2 : ((", " : String) : Str).length = 2 := rfl
        rw [e2]
        omega
  unfold tupleText
  rw [strLen_append, strLen_append]
  have e1 : (("(" : String) : Str).length = 1 := rfl
  have := j ts
  by_cases z : (ts.length == 1) = true
  · rw [if_pos z, e1]
    have e2 : ((",)" : String) : Str).length = 2 := rfl
    rw [e2]
    omega
  · rw [if_neg z, e1]
    have e2 : ((")" : String) : Str).length = 1 := rfl
    rw [e2]
    omega
theorem len_tup3 (x y z : Str) : (tupleText [x, y, z]).length = x.length + y.length + z.length + 6 := by
  show (("(" : Str) ++ (x ++ ", " ++ (y ++ ", " ++ z)) ++ ")").length = _
  rw [strLen_append, strLen_append, strLen_append, strLen_append, strLen_append, strLen_append]
  have e1 : (("(" : String) : Str).length = 1 := rfl
  have e2 : ((")" : String) : Str).length = 1 := rfl
  have e3 : ((", " : String) : Str).length = 2 := rfl
  rw [e1, e2, e3]
  omega
theorem len_from : ∀ (ts : List Str) (k : Nat) (acc : Str), (textFrom k acc ts).length ≤ acc.length + (ts.map fun t => t.length + 2).sum
  | [], k, acc => Nat.le_refl _
  | t :: r, k, acc => by
    have h := len_from r (k + 1) (acc ++ (if k > 0 then ", " else "" : String) ++ t)
    have e : (acc ++ (if k > 0 then ", " else "" : String) ++ t).length ≤ acc.length + 2 + t.length := by
      rw [strLen_append, strLen_append]
      by_cases z : k > 0
      · rw [if_pos z]
        exact Nat.le_refl _
      · rw [if_neg z]
        have e0 : (("" : String) : Str).length = 0 := rfl
        rw [e0]
        omega
    rw [List.map_cons, List.sum_cons]
    show (textFrom (k + 1) (acc ++ (if k > 0 then ", " else "" : String) ++ t) r).length ≤ _
    omega
theorem len_lst (ts : List Str) : (listText ts).length ≤ (ts.map fun t => t.length + 2).sum + 2 := by
  unfold listText
  rw [strLen_append]
  have h := len_from ts 0 "["
  have e1 : (("[" : String) : Str).length = 1 := rfl
  have e2 : (("]" : String) : Str).length = 1 := rfl
  rw [e1] at h
  rw [e2]
  omega
def FitB (h L : Nat) (d : PyData) : Bool := d.showable && (decide (d.depth ≤ h) && (decide (d.shown.length ≤ L) && lowS d.shown))
structure Fit (h L : Nat) (d : PyData) : Prop where
  sh : d.showable = true
  dp : d.depth ≤ h
  ln : d.shown.length ≤ L
  lo : lowS d.shown = true
theorem fit_of {h L : Nat} {d : PyData} (z : FitB h L d = true) : Fit h L d := by
  unfold FitB at z
  rw [Bool.and_eq_true, Bool.and_eq_true, Bool.and_eq_true] at z
  exact ⟨z.1, of_decide_eq_true z.2.1, of_decide_eq_true z.2.2.1, z.2.2.2⟩
theorem fit_all {h L : Nat} {ds : List PyData} (z : ds.all (FitB h L) = true) : ∀ d ∈ ds, Fit h L d := fun d hd => fit_of (List.all_eq_true.mp z d hd)
theorem Fit.mono {h L h' L' : Nat} {d : PyData} (z : Fit h L d) (a : h ≤ h') (b : L ≤ L') : Fit h' L' d := ⟨z.sh, Nat.le_trans z.dp a, Nat.le_trans z.ln b, z.lo⟩
theorem fit_small : ∀ n : Nat, n < 100 → FitB 0 2 (.int n) = true := by decide +kernel
theorem fit_int {i : Int} (h0 : 0 ≤ i) (h1 : i < 100) : Fit 0 2 (.int i) := by
  have z := fit_small i.toNat (by omega)
  rw [show ((i.toNat : Nat) : Int) = i by omega] at z
  exact fit_of z
theorem Fit.tup3 {h L1 L2 L3 : Nat} {a b c : PyData} (x : Fit h L1 a) (y : Fit h L2 b) (z : Fit h L3 c) : Fit (h + 1) (L1 + L2 + L3 + 6) (.tuple [a, b, c]) := by
  refine ⟨?_, ?_, ?_, ?_⟩
  · simp only [PyData.showable, PyData.showableAll, x.sh, y.sh, z.sh, Bool.and_self]
  · have h1 := x.dp
    have h2 := y.dp
    have h3 := z.dp
    simp only [PyData.depth, PyData.depthAll]
    omega
  · have h1 := x.ln
    have h2 := y.ln
    have h3 := z.ln
    simp only [PyData.shown, PyData.shownAll]
    rw [len_tup3]
    omega
  · simp only [PyData.shown, PyData.shownAll]
    refine low_tup ?_
    rw [List.all_cons, List.all_cons, List.all_cons, x.lo, y.lo, z.lo]
    rfl
theorem all_shown {h L : Nat} : ∀ {ds : List PyData}, (∀ d ∈ ds, Fit h L d) → PyData.showableAll ds = true ∧ PyData.depthAll ds ≤ h ∧ ((PyData.shownAll ds).map fun t => t.length + 2).sum ≤ ds.length * (L + 2) ∧ (PyData.shownAll ds).all lowS = true
  | [], _ => ⟨by simp only [PyData.showableAll], by simp only [PyData.depthAll]; exact Nat.zero_le _, by simp only [PyData.shownAll]; exact Nat.zero_le _, by simp only [PyData.shownAll]; rfl⟩
  | d :: ds, q => by
    have z := q d List.mem_cons_self
    obtain ⟨h1, h2, h3, h4⟩ := all_shown (ds := ds) fun e he => q e (List.mem_cons_of_mem _ he)
    have z1 := z.dp
    have z2 := z.ln
    refine ⟨by simp only [PyData.showableAll, z.sh, h1, Bool.and_self], by simp only [PyData.depthAll]; omega, ?_, by simp only [PyData.shownAll, List.all_cons, z.lo, h4, Bool.and_self]⟩
    simp only [PyData.shownAll, List.map_cons, List.sum_cons, List.length_cons]
    rw [Nat.succ_mul]
    omega
theorem Fit.tupAll {h L : Nat} {ds : List PyData} (q : ∀ d ∈ ds, Fit h L d) : Fit (h + 1) (ds.length * (L + 2) + 3) (.tuple ds) := by
  obtain ⟨h1, h2, h3, h4⟩ := all_shown q
  refine ⟨by simp only [PyData.showable]; exact h1, by simp only [PyData.depth]; omega, ?_, by simp only [PyData.shown]; exact low_tup h4⟩
  simp only [PyData.shown]
  have := len_tup (PyData.shownAll ds)
  omega
theorem low_from : ∀ (ts : List Str) (k : Nat) (acc : Str), lowS acc = true → ts.all lowS = true → lowS (textFrom k acc ts) = true
  | [], _, _, h, _ => h
  | t :: r, k, acc, h, q => by
    rw [List.all_cons, Bool.and_eq_true] at q
    refine low_from r (k + 1) _ (low_app (low_app h ?_) q.1) q.2
    by_cases z : k > 0
    · rw [if_pos z]
      rfl
    · rw [if_neg z]
      rfl
theorem Fit.lstAll {h L : Nat} {ds : List PyData} (q : ∀ d ∈ ds, Fit h L d) : Fit (h + 1) (ds.length * (L + 2) + 2) (.list ds) := by
  obtain ⟨h1, h2, h3, h4⟩ := all_shown q
  refine ⟨by simp only [PyData.showable]; exact h1, by simp only [PyData.depth]; omega, ?_, by simp only [PyData.shown]; exact low_app (low_from _ 0 _ rfl h4) rfl⟩
  simp only [PyData.shown]
  have := len_lst (PyData.shownAll ds)
  omega
/-- what repr of a list with texts in it asks: no look at the signs that it shows -/
structure Fit0 (h L : Nat) (d : PyData) : Prop where
  sh : d.showable = true
  dp : d.depth ≤ h
  ln : d.shown.length ≤ L
theorem Fit.to0 {h L : Nat} {d : PyData} (z : Fit h L d) : Fit0 h L d := ⟨z.sh, z.dp, z.ln⟩
theorem Fit0.mono {h L h' L' : Nat} {d : PyData} (z : Fit0 h L d) (a : h ≤ h') (b : L ≤ L') : Fit0 h' L' d := ⟨z.sh, Nat.le_trans z.dp a, Nat.le_trans z.ln b⟩
theorem fit0_str {x : Str} {L : Nat} (h : lowS x = true) (z : x.length ≤ L) : Fit0 0 (10 * L + 2) (.str x) := by
  refine ⟨by simp only [PyData.showable], by simp only [PyData.depth]; exact Nat.le_refl _, ?_⟩
  simp only [PyData.shown]
  have q := StrLaws.reprText_len x fun c hc => by
    have z := of_decide_eq_true (List.all_eq_true.mp h c hc)
    exact Nat.lt_trans z (by decide)
  omega
theorem Fit0.lstAll {h L : Nat} : ∀ {ds : List PyData}, (∀ d ∈ ds, Fit0 h L d) → Fit0 (h + 1) (ds.length * (L + 2) + 2) (.list ds) := by
  intro ds q
  have r : PyData.showableAll ds = true ∧ PyData.depthAll ds ≤ h ∧ ((PyData.shownAll ds).map fun t => t.length + 2).sum ≤ ds.length * (L + 2) := by
    induction ds with
    | nil => exact ⟨by simp only [PyData.showableAll], by simp only [PyData.depthAll]; exact Nat.zero_le _, by simp only [PyData.shownAll]; exact Nat.zero_le _⟩
    | cons d ds ih =>
      have z := q d List.mem_cons_self
      obtain ⟨h1, h2, h3⟩ := ih fun e he => q e (List.mem_cons_of_mem _ he)
      have z1 := z.dp
      have z2 := z.ln
      refine ⟨by simp only [PyData.showableAll, z.sh, h1, Bool.and_self], by simp only [PyData.depthAll]; omega, ?_⟩
      simp only [PyData.shownAll, List.map_cons, List.sum_cons, List.length_cons]
      rw [Nat.succ_mul]
      omega
  refine ⟨by simp only [PyData.showable]; exact r.1, by simp only [PyData.depth]; omega, ?_⟩
  simp only [PyData.shown]
  have := len_lst (PyData.shownAll ds)
  omega
end VK
namespace VK
open PySem PySem.Spec PyProof.Rows L2
theorem low_split {x y : Str} (h : lowS (x ++ y) = true) : lowS x = true ∧ lowS y = true := by
  unfold lowS at *
  rw [show (x ++ y).cps = x.cps ++ y.cps from rfl, Array.toList_append, List.all_append, Bool.and_eq_true] at h
  exact h
theorem Fit.parts {h L : Nat} {a b c : PyData} (f : Fit h L (.tuple [a, b, c])) : Fit a.depth a.shown.length a ∧ Fit b.depth b.shown.length b ∧ Fit c.depth c.shown.length c := by
  have sh := f.sh
  simp only [PyData.showable, PyData.showableAll, Bool.and_true, Bool.and_eq_true] at sh
  have lo := f.lo
  simp only [PyData.shown, PyData.shownAll] at lo
  have lo2 : lowS (("(" : Str) ++ (a.shown ++ ", " ++ (b.shown ++ ", " ++ c.shown)) ++ ")") = true := lo
  have l1 := (low_split (low_split lo2).1).2
  have l2 := (low_split (low_split l1).1).1
  have l3 := (low_split l1).2
  exact ⟨⟨sh.1, Nat.le_refl _, Nat.le_refl _, l2⟩, ⟨sh.2.1, Nat.le_refl _, Nat.le_refl _, (low_split (low_split l3).1).1⟩, ⟨sh.2.2, Nat.le_refl _, Nat.le_refl _, (low_split l3).2⟩⟩
end VK

/-! VKit3: a call that does not see one list of the caller's -/
namespace VK
open PySem PySem.Spec PyProof.Rows L2
section
variable {X : Cx} {pins : List (Addr × Obj)} {σ : L2.St} {H H' : Hp} {s s' : Shared} {D : Addr} {acc : List V}
theorem Inv.hide (I : Inv X pins σ H s) (hD : H D = some (.lst acc)) : Inv X pins σ (off D H) s := by
  have low : ∀ b, H b = none → off D H b = none := fun b e => by
    unfold off
    by_cases z : b = D
    · rw [if_pos z]
    · rw [if_neg z]
      exact e
  have ne : ∀ {b o}, H b = some o → o ≠ .lst acc → b ≠ D := fun e n z => by
    rw [z, hD] at e
    exact n (Option.some.inj e).symm
  refine ⟨I.ok, I.os, I.bare, ⟨I.base.keep, I.base.slot, ?_, I.base.there, ?_, ?_, ?_⟩, I.loc, I.cell, low _ I.free, fun x c e => low _ (I.freeC x c e), fun p hp => ?_, fun b o e => ?_, I.len⟩
  · exact fun b o e n hx => low _ (I.base.free b o e n hx)
  · exact fun b xs e => off_put (ne (I.base.tups b xs e) (fun z => nomatch z)) (I.base.tups b xs e)
  · exact fun b o u e => off_put (ne (I.base.frzs b o u e) (fun z => nomatch z)) (I.base.frzs b o u e)
  · intro b ps e
    obtain ⟨m, em⟩ := I.base.tbls b ps e
    exact ⟨m, off_put (ne em (fun z => nomatch z)) em⟩
  · obtain ⟨e, n, r⟩ := I.pin p hp
    exact ⟨e, low _ n, r⟩
  · obtain ⟨nb, e⟩ := off_get e
    refine (I.hok b o e).stay (fun c u _ q => q) (fun c q => off_put (ne q (fun z => nomatch z)) q) fun c xs q => off_put (ne q (fun z => nomatch z)) q
theorem Inv.show (I : Inv X pins σ H s) (hD : H D = some (.lst acc)) (J : Inv X pins σ H' s') (hn : H' D = none) (k : ∀ o, s.heap.get? D = some o → s'.heap.get? D = some o) : Inv X pins σ (upd H' D (.lst acc)) s' := by
  have ne0 : ∀ {b : Addr}, H b = none → b ≠ D := fun e z => by
    rw [z, hD] at e
    cases e
  refine ⟨J.ok, J.os, J.bare, ⟨J.base.keep, J.base.slot, ?_, J.base.there, ?_, ?_, ?_⟩, J.loc, J.cell, ?_, fun x c e => ?_, fun p hp => ?_, fun b o e => ?_, J.len⟩
  · intro b o e n hx
    rw [upd_ne (ne0 (I.base.free b o e n hx))]
    exact J.base.free b o e n hx
  · intro b xs e
    have z := J.base.tups b xs e
    rw [upd_ne (ne_of_none z hn)]
    exact z
  · intro b o u e
    have z := J.base.frzs b o u e
    rw [upd_ne (ne_of_none z hn)]
    exact z
  · intro b ps e
    obtain ⟨m, z⟩ := J.base.tbls b ps e
    exact ⟨m, by rw [upd_ne (ne_of_none z hn)]; exact z⟩
  · rw [upd_ne (ne0 I.free)]
    exact J.free
  · rw [upd_ne (ne0 (I.freeC x c e))]
    exact J.freeC x c e
  · obtain ⟨e, n, r⟩ := J.pin p hp
    obtain ⟨_, n2, _⟩ := I.pin p hp
    exact ⟨e, by rw [upd_ne (ne0 n2)]; exact n, r⟩
  · by_cases z : b = D
    · subst z
      rw [upd_same] at e
      cases e
      obtain ⟨a1, its, n, a2, a3⟩ := I.hok b _ hD
      exact ⟨a1, its, n, a2, k _ a3⟩
    · rw [upd_ne z] at e
      refine (J.hok b o e).stay (fun c u _ q => q) (fun c q => ?_) fun c xs q => ?_
      · rw [upd_ne (ne_of_none q hn)]
        exact q
      · rw [upd_ne (ne_of_none q hn)]
        exact q
end
def tCallF (sp : Sp) (t : TA) : TE := fun σ H Q => t σ H fun vs H1 => ∃ D acc, H1 D = some (.lst acc) ∧ sp vs (off D H1) (fun v H2 => H2 D = none → Q v (upd H2 D (.lst acc))) E0
theorem pe_cgF {X : Cx} {k j : Nat} {x : Str} {p pos : Pos} {e : Expr} {es : List Expr} {t : TA} {sp : Sp} (c : CalG X.prog X.w X.K X.mg X.base k x sp) (hga : X.A.guards = some []) (room : Room j X.A) (hk : k ≤ j) (gl : Gl X x)
    (args : PA X (e :: es) t) (nd : (x == ("__debug__" : Str)) = false := by decide) (st : starEach (e :: es) X.env = (false, eval e X.env) :: starEach es X.env := by rfl) (pl : (backTo pos (starEach es X.env)).any (·.1) = false := by rfl) :
    PE X (.Call (.Name x p) (e :: es) [] pos) (tCallF sp t) := by
  obtain ⟨f, fd, ps, F, m, kp, b⟩ := c.ex
  constructor
  intro pins s σ H Q I h
  refine wpAny_Call_Name_kw (ld_glob I gl m ?_ nd)
  refine PySem.W.callWith_K (h₀ := X.base) I.ok.mod.kin kp (thn (args.run pos pins s σ H _ I h) ?_) st pl
  intro us s1 ⟨vs, H1, I1, r, D, acc, hD, q⟩
  refine ⟨I1.kIn, ?_⟩
  have J1 := Inv.hide I1 hD
  have rel : Vals (vs ++ []) (us ++ []) := r.append .nil
  have q' : sp (vs ++ []) (off D H1) (fun v H2 => H2 D = none → Q v (upd H2 D (.lst acc))) E0 := by
    rw [List.append_nil]
    exact q
  have hl : (us ++ []).length = ps.length := rel.length.symm.trans (F.args _ _ _ _ q')
  refine wpAny_call (codeAny_mono (F.go hga (room.mono hk) J1.env0 (b s1 us J1.kIn hl) rel q') ?_)
  intro r' s' hq
  match r', hq with
  | .error e, hq => exact hq.elim
  | .ok .next, hq => exact hq.elim
  | .ok .brk, hq => exact hq.elim
  | .ok .cont, hq => exact hq.elim
  | .ok (.ret u), hq =>
    have hq' := hq
    obtain ⟨v, H2, os, bare, un, hok, rv, qq⟩ := hq'
    have offD : off D H1 D = none := by
      unfold off
      rw [if_pos rfl]
    obtain ⟨a1, its, n, a2, a3⟩ := I1.hok D _ hD
    have notfr : D ∉ frs X.stack := fun z => by
      have e0 := I1.stkFree D z
      rw [hD] at e0
      cases e0
    have kD : s'.heap.get? D = some { cls := .type "list", data := .seq its.toArray n } := un.keep D _ a3 offD notfr (fun z => nomatch z)
    have hn : H2 D = none := un.free D _ a3 offD (fun z => nomatch z)
    obtain ⟨v', H2', J2, rv', q2⟩ := J1.after (Q := fun v' H' => v' = v ∧ H' = H2) ⟨v, H2, os, bare, un, hok, rv, rfl, rfl⟩
    obtain ⟨rfl, rfl⟩ := q2
    refine ⟨v', upd H2' D (.lst acc), Inv.show I1 hD J2 hn (fun o e => ?_), rv', qq hn⟩
    rw [a3] at e
    rw [← Option.some.inj e]
    exact kD
end VK

/-! VKit4: defs that raise, own errors with one field, isinstance of a caught one, the place of an item in a tuple -/
namespace PySem
namespace NmX
open PySem.W PySem.Calls PyProof.Rows PySem.HandSPX
def iA (p1 p2 : Pos) : Arguments := { posonlyargs := [], args := [{ arg := "self", annotation := none, pos := p1 }, { arg := "name", annotation := none, pos := p2 }], vararg := none, kwonlyargs := [], kw_defaults := [], kwarg := none, defaults := [] }
def iB (q1 q2 q3 q4 : Pos) : List Stmt := [.Assign [.Attribute (.Name "self" q1) "name" q2] (.Name "name" q3) q4]
def iS : Scope := { kind := .function, names := [(PySem.Str.ofString "self", .local), (PySem.Str.ofString "name", .local)], isGenerator := false, isCoroutine := false, more := [] }
structure NmTxt (K : Frag) (mg : Str → Option Value) (cn qn : Str) (C fI : Addr) : Prop where
  gC : mg cn = some (.ref C)
  cls : ∃ nm q N bs bm sn sub ab col dd k0 k1 k2 k3 k5, K.lookup C = some (excClassObj nm q C N bs bm true sn sub ab col dd k0 k1 k2 k3 k5 "ValueError.__new__") ∧ refsVE bm = true
  sa : findIn K (.ref C) "__setattr__" = some (some (.builtin "object.__setattr__"))
  ga : findIn K (.ref C) "__getattribute__" = some (some (.builtin "BaseException.__getattribute__"))
  gg : findIn K (.ref C) "__getattr__" = some none
  noN : findIn K (.ref C) "name" = some none
  iC : findIn K (.ref C) "__init__" = some (some (.ref fI))
  tC : typeIn K (.ref fI) = some (.type "function")
  kC : keepIn K (.ref C) = true
  exC : subIn K (.ref C) (.type "BaseException") = some true
  tyC : typeIn K (.ref C) = some (.type "type")
  hdC : hasDictIn K C = true
  te : exmOne K (.ref C) (.ref C) = some true
  fn : ∃ (oc : Value) (od : Option Addr) (doc pm : Value) (an : Option Addr) (cdv ct : Value) (osl : Array (Option Value)) (p1 p2 q1 q2 q3 q4 : Pos),
    K.lookup fI = some ⟨oc, od, .func (fnOf "__init__" qn (iA p1 p2) (iB q1 q2 q3 q4) iS .none .none doc pm an cdv ct), osl⟩ ∧ codeIn K cdv qn = true
theorem one_size (v : Value) : [v].length ≤ sizeLine := by
  rw [sizeLine_eq]
  exact (by decide : 1 ≤ 16777216)
theorem kept_but {K : Frag} {h h' : Heap} {x : Addr} (X : K.In h) (hx : K.lookup x = none) (k : ∀ b o, b ≠ x → h.get? b = some o → h'.get? b = some o) : K.In h' := fun a o e =>
  k a o (fun z => by rw [z, hx] at e; cases e) (X a o e)
theorem ldC {M : Model} {s : Shared} {name : Str} {scope : Scope} {L a : Addr} {cd : Value} {m : Str → Option Value} {x : Str} {pos : Pos} {v : Value} {Q : Value → Shared → Prop} {A : Around} {E : Value → Shared → Prop} (hn : s.heap.Ns L m) (hv : m x = some v) (h : Q v s)
    (hk : scope.kind = .function := by rfl) (hl : (envOfC name scope L a cd).kindOf x = some .local := by rfl) (hd : (x == ("__debug__" : Str)) = false := by decide) :
    wpAny M A (eval (.Name x pos) (envOfC name scope L a cd)) Q E s := wpAny_Name (wpAny_loadName_local hk hl hn hv h) hd
structure InitEnd (h h' : Heap) (x C dx t1 : Addr) (v : Value) : Prop where
  keep : ∀ b o, b ≠ x → h.get? b = some o → h'.get? b = some o
  obj : h'.get? x = some { cls := .ref C, dict := some dx, data := .fields #[.ref t1, .none, .none, .none, .bool false, .none] }
  dbig : h.objs.size ≤ dx
  dne : dx ≠ x
  ns : h'.Ns1 dx (fun y => if y = "name" then some v else none)
structure OwnMade (h h' : Heap) (e C d : Addr) (v : Value) : Prop where
  keep : ∀ b o, h.get? b = some o → h'.get? b = some o
  new : h.objs.size ≤ e
  obj : ∃ oe vs, h'.get? e = some oe ∧ oe.cls = .ref C ∧ oe.dict = some d ∧ oe.data = .fields vs ∧ vs[1]? = some .none
  dbig : h.objs.size ≤ d
  dne : d ≠ e
  ns : h'.Ns1 d (fun y => if y = "name" then some v else none)
section
variable {prog : Program} {w : World} {A : Around} {E : Value → Shared → Prop} {R : Result → Shared → Prop} {s : Shared} {K : Frag} {mg : Str → Option Value} {cn qn : Str} {C fI : Addr}
theorem nm_init (T : NmTxt K mg cn qn C fI) {x t0 : Addr} {v : Value} (X : K.In s.heap) (hlim : s.heap.NoLimit) (hx : s.heap.get? x = some (excO C t0)) (hnx : K.lookup x = none) (hroom : A.depth < recursionLimit)
    (hq : ∀ h' tk dx, InitEnd s.heap h' x C dx t0 v → R (.ok (.ret .none)) { s with heap := h', toks := tk }) :
    codeAny (model prog w) A (.call (.ref fI) ⟨[.ref x, v], []⟩) R s := by
  obtain ⟨oc, od, doc, pm, an, cdv, ct, osl, p1, p2, q1, q2, q3, q4, ho, hcd⟩ := T.fn
  obtain ⟨nm, q, N, bs, bm, sn, sub, ab, col, dd, k0, k1, k2, k3, k5, hC, hbm⟩ := T.cls
  have hcl : clsIn K C = some { name := nm, bases := bs, mro := .ref C :: bm, ns := N, qualname := q, hasDict := true, slotNames := sn, subclasses := sub, abstract := ab, collection := col, hasDel := false } := by unfold clsIn; rw [hC] <;> rfl
  refine Att.call_fn (binds := [("self", .ref x), ("name", v)]) X hlim ho hcd hroom (BindsTo.of_eq (by first | rfl | with_unfolding_all rfl)) (by first | rfl | decide | with_unfolding_all rfl) (fun s₁ IC => ?_) rfl rfl rfl
  obtain ⟨h₁, tk₁, rfl⟩ := IC.toInCall.same
  have k : ∀ b o, s.heap.get? b = some o → h₁.get? b = some o := IC.toInCall.keep
  have hn := IC.toInCall.ns
  have hxL : s.heap.objs.size ≠ x := Nat.ne_of_gt (Heap.lt_size hx)
  have X₁ : K.In h₁ := X.keeps k
  have hx₁ := k _ _ hx
  -- self.by = by
  show wpAny _ _ (execs _ _) _ _ _
  refine wpAny_execs_cons (plainObj_wpAny_Assign_Attribute ?_)
  refine ldC (v := v) hn (by first | rfl | with_unfolding_all rfl | kernel_rfl) (ldC (v := .ref x) hn (by first | rfl | with_unfolding_all rfl | kernel_rfl) ?_)
  refine set_plain X₁ (ox := excO C t0) (od := none) ⟨hx₁, rfl, rfl, trivial⟩ T.sa ?_
  refine exc_osa X₁ hx₁ hcl (show refsVE (.ref C :: bm) = true from hbm) rfl T.noN (fun h₃ tk₃ dx k₃ dn dne hx₃ hn₃ => ?_)
  show wpAny _ _ (execs _ _) _ _ _
  have z : s.heap.objs.size < h₁.objs.size := hn.lt
  exact wpAny_execs_nil (hq h₃ tk₃ dx ⟨fun b o hb e => k₃ b o hb (k b o e), hx₃, Nat.le_of_lt (Nat.lt_of_lt_of_le z dn), dne, hn₃⟩)
theorem nm_made (T : NmTxt K mg cn qn C fI) {v : Value} (X : K.In s.heap) (hlim : s.heap.NoLimit) (hroom : A.depth + 1 < recursionLimit)
    (hq : ∀ h' tk e d, OwnMade s.heap h' e C d v → R (.ok (.ret (.ref e))) { s with heap := h', toks := tk }) :
    codeAny (model prog w) A (.call (.ref C) ⟨[v], []⟩) R s := by
  obtain ⟨nm, q, N, bs, bm, sn, sub, ab, col, dd, k0, k1, k2, k3, k5, hC, hbm⟩ := T.cls
  obtain ⟨hp, g, dr, tk, os⟩ := s
  have k : ∀ b o, hp.get? b = some o → ((hp.push (kdv_tup [v])).push (excO C hp.objs.size)).get? b = some o := fun b o e => Heap.get?_push_of_some _ (Heap.get?_push_of_some _ e)
  have hget : ((hp.push (kdv_tup [v])).push (excO C hp.objs.size)).get? (hp.objs.size + 1) = some (excO C hp.objs.size) := by heap_get
  have hnx : K.lookup (hp.objs.size + 1) = none := by
    cases e : K.lookup (hp.objs.size + 1) with
    | none => rfl
    | some o =>
      have z : hp.get? (hp.objs.size + 1) = some o := X _ _ e
      exact absurd (Nat.lt_of_succ_lt (Heap.lt_size z)) (Nat.lt_irrefl _)
  refine call_own F.excBase_ValueError (fun X => refsVE_contains X bm hbm) (X _ _ hC) (looks_findIn X T.iC) (fun self => bind_fn X self T.tC) (one_size v) ?_
  refine nm_init (s := ⟨(hp.push (kdv_tup [v])).push (excO C hp.objs.size), g, dr, tk, os⟩) T (X.keeps k) (hlim.keeps k) hget hnx ?_ fun h' tk' dx ⟨k', hx, dn, dne, hns⟩ => ?_
  · show A.depth + 1 < recursionLimit
    exact hroom
  · have old : ∀ b o, hp.get? b = some o → h'.get? b = some o := fun b o e => k' b o (Nat.ne_of_lt (Nat.lt_succ_of_lt (Heap.lt_size e))) (k b o e)
    have z : hp.objs.size + 1 + 1 ≤ dx := by
      first
        | (simpa only [Heap.size_push] using dn)
        | exact dn
        | (have q := dn; rw [Heap.size_push, Heap.size_push] at q; exact q)
    exact ⟨rfl, hq h' tk' (hp.objs.size + 1) dx ⟨old, Nat.le_succ _, ⟨_, _, hx, rfl, rfl, rfl, rfl⟩, Nat.le_trans (Nat.le_trans (Nat.le_succ _) (Nat.le_succ _)) z, dne, hns⟩⟩
end
end NmX
end PySem
namespace L2
open PySem PySem.Spec PyProof.Rows
theorem relO_nm {v : V} {v' : Value} (r : RelV v v') (f : Str) : RelO (List.lookup f [(("name" : Str), v)]) (if f = "name" then some v' else none) := by
  by_cases hw : f = "name"
  · subst hw
    rw [if_pos rfl]
    have q : List.lookup ("name" : Str) [(("name" : Str), v)] = some v := by simp [List.lookup]
    rw [q]
    exact r
  · rw [if_neg hw]
    have qw : (f == ("name" : Str)) = false := by simpa using hw
    have q2 : List.lookup f [(("name" : Str), v)] = none := by simp [List.lookup, qw]
    rw [q2]
    trivial
section
variable {X : Cx} {cn qn : Str} {C fI : Addr}
def tMkNm (C : Addr) (ta : TA) : St → Hp → XK → Prop := fun σ H Q => ta σ H fun vs H1 => ∃ v, vs = [v] ∧ ∀ d, H1 d = none → Q (.ref C) (some d) (upd H1 d (.xd [(("name" : Str), v)]))
theorem pmk_nm (hdb : (cn == ("__debug__" : Str)) = false) {a : Expr} {ta : TA} {p pos : Pos} {k : Nat} (T : PySem.NmX.NmTxt X.K X.mg cn qn C fI) (hr : Room k X.A) (ha : PA X [a] ta) (hg : Gl X cn := by rfl)
    (he : starEach (a :: []) X.env = (false, eval a X.env) :: starEach [] X.env := by rfl) (hpl : (backTo pos (starEach [] X.env)).any (·.1) = false := by rfl) :
    PMk X (.Call (.Name cn p) [a] [] pos) (tMkNm C ta) := by
  intro pins s σ H Q I h
  refine wpAny_Call_Name_kw (ld_glob I hg T.gC ?_ hdb)
  refine PySem.W.callWith_K (h₀ := X.base) I.ok.mod.kin T.kC (thn (ha.run pos pins s σ H _ I h) fun us s1 hh => ?_) he hpl
  obtain ⟨vs, H1, I1, r1, v, ev, q1⟩ := hh
  subst ev
  refine ⟨I1.kIn, ?_⟩
  cases r1 with
  | cons rv rn =>
    rename_i v' us'
    cases rn
    show wpAny _ _ (call (.ref C) [v']) _ _ _
    have hlim := I1.nolimit
    obtain ⟨hp, g, dr, tk, os⟩ := s1
    refine wpAny_call (PySem.NmX.nm_made T I1.kIn hlim (by have := hr.dp; omega) fun h' tk' e d M => ?_)
    show MkP X pins σ Q (.ref e) ⟨h', g, dr, tk', os⟩
    obtain ⟨oe, fv, hoe, hc, hd, hdat, h1⟩ := M.obj
    have hns := M.ns
    obtain ⟨G', g1, g2⟩ := restrict h' fun b => decide (b ≠ e)
    have gk : ∀ b, b ≠ e → G'.get? b = h'.get? b := fun b hb => g1 b (decide_eq_true hb)
    have ge : G'.get? e = none := g2 e (by simp)
    have old : ∀ b o, hp.get? b = some o → G'.get? b = some o := fun b o q => (gk b (Nat.ne_of_lt (Nat.lt_of_lt_of_le (Heap.lt_size q) M.new))).trans (M.keep b o q)
    have ob : ObjOk X.prog X.w (upd H1 d (.xd [(("name" : Str), v)])) G' d (.xd [(("name" : Str), v)]) :=
      ⟨_, hns.at (fun o q => (gk d M.dne).trans q), fun f => relO_nm rv f⟩
    have J : Inv X pins σ (upd H1 d (.xd [(("name" : Str), v)])) ⟨G', g, dr, tk', os⟩ := I1.laid (t' := tk') old M.dbig ob
    refine ⟨e, oe, fv, ⟨G', g, dr, tk', os⟩, _, .ref C, some d, rfl, J, fun b o q => ?_, ge, hoe, ⟨hc, hd⟩, hdat, h1, ?_, rfl, I1.bare, raises_own T.exC T.tyC, q1 d (I1.hok.fresh M.dbig)⟩
    · by_cases hb : b = e
      · have q' : G'.get? b = some o := q
        rw [hb, ge] at q'; cases q'
      · exact (gk b hb).symm.trans q
    · rw [upd_ne (Ne.symm M.dne)]
      exact I1.hok.fresh M.new
def tRaiseNm (C : Addr) (W : WX) (ta : TA) : TS := fun _ σ H => tMkNm C ta σ H fun cls d H' => W cls d σ H'
theorem ps_raiseNm (hdb : (cn == ("__debug__" : Str)) = false) {a : Expr} {ta : TA} {W : WX} {p pos pos2 : Pos} {k : Nat} (hc : X.calm = true) (T : PySem.NmX.NmTxt X.K X.mg cn qn C fI) (hr : Room k X.A) (tk : Takes X W) (ha : PA X [a] ta) (hg : Gl X cn := by rfl)
    (he : starEach (a :: []) X.env = (false, eval a X.env) :: starEach [] X.env := by rfl) (hpl : (backTo pos (starEach [] X.env)).any (·.1) = false := by rfl) :
    PS X (.Raise (some (.Call (.Name cn p) [a] [] pos)) none pos2) (tRaiseNm C W ta) := ps_raise hc tk (pmk_nm hdb T hr ha hg he hpl)
def tByNm (C : Addr) (a : Addr) (cls : Value) (d : Option Addr) (te : TE) : TE := fun σ H Q => te σ H fun x H1 => x = .ref a ∧ cls = .ref C ∧ ∃ (dd : Addr) (v : V), d = some dd ∧ H1 dd = some (.xd [(("name" : Str), v)]) ∧ Q v H1
theorem pe_byNm {a : Addr} {oe : Obj} {cls : Value} {d : Option Addr} {pn : List (Addr × Obj)} {e : Expr} {te : TE} {pos : Pos} (T : PySem.NmX.NmTxt X.K X.mg cn qn C fI) (hz : Zc cls d oe) (hf : ∃ vs, oe.data = .fields vs) (he : PE (X.suite a ((a, oe) :: pn)) e te)
    (hb : attributeBase e "name" X.env (eval e X.env) = eval e X.env := by rfl) :
    PE (X.suite a ((a, oe) :: pn)) (.Attribute e "name" pos) (tByNm C a cls d te) := by
  refine ⟨fun pins s σ H Q I h => ?_⟩
  refine attr_of hb (thn (he.run pins s σ H _ I h) fun u s1 hh => ?_)
  obtain ⟨x, H1, I1, rx, ex, ec, dd, v, ed, ea, q⟩ := hh
  subst ex
  obtain rfl : u = Value.ref a := rx
  subst ec
  subst ed
  obtain ⟨ha, _⟩ := I1.pin (a, oe) (List.mem_append_left _ List.mem_cons_self)
  obtain ⟨vs, hd⟩ := hf
  have hx : ObjOk X.prog X.w H1 s1.heap dd (.xd [(("name" : Str), v)]) := I1.hok dd _ ea
  obtain ⟨mA, hns, hr⟩ := hx
  obtain ⟨od, ho, hl⟩ := lookIn_ns hns
  have l : List.lookup ("name" : Str) [(("name" : Str), v)] = some v := by simp [List.lookup]
  obtain ⟨u, hu, ru⟩ := RelO.some_of (v := v) (o := mA "name") (by rw [← l]; exact hr "name")
  have J : PySem.W.InstAt s1.heap a oe C (some od) := ⟨ha, hz.1, by unfold PySem.W.notCls; rw [hd] <;> rfl, by rw [hz.2]; exact ho⟩
  exact HandSPX.exc_get I1.kIn J T.ga T.gg T.exC (PySem.W.findObj_own T.hdC T.noN rfl (by rw [hl, hu])) (handed_of ru) ⟨v, H1, I1.tok _, ru, q⟩
end
end L2


namespace VK
open PySem PySem.Spec PyProof.Rows L2
/-! ### defs that may raise, no repr around them -/
section
variable {P : Program} {w : World} {K : PySem.W.Frag} {mg : Str → Option Value} {base : Heap}
theorem okGX {x qual : Str} {st : Stmt} {f : Addr} {fd : FuncData} {N ps : List Str} {k : Nat} {sp : Sp} (F : Fun K x qual st f fd) (S : FnScope N ps (defScope st))
    (ln : ∀ vs H Q E, sp vs H Q E → vs.length = ps.length)
    (body : ∀ (cdv : Value) (A : Around) (outer : List Env) (s : Shared) (H : Hp) (vs : List V) (Q : VK) (E : XK),
      A.guards = some [] → Room k (A.deeper (envOfC qual (defScope st) s.heap.objs.size f cdv)) → sp vs H Q E →
      ∃ t, PSs (cxOf (L2.CX P w) P w K mg base N qual (defScope st) f cdv A outer s H E) (defBody st) t ∧ t { nx := fun _ H' => Q .non H', rt := Q } (start N vs) H) :
    FnG P w K mg base (L2.CX P w) (k + 1) f fd ps sp := by
  obtain ⟨oc, od, kV, doc, pm, an, cdv, ct, osl, e, lk, hcd⟩ := F.ex
  subst e
  refine ⟨ln, ?_⟩
  intro A outer s H a us vs Q E gA room ev bd rel sps
  have inK := ev.mod.kin.keeps fun b o z => (ev.bs b o z).1
  have nolim := ev.mod.nolimit.keeps fun b o z => (ev.bs b o z).1
  have lens := ln _ _ _ _ sps
  have kinds : ∀ y ∈ ps.zip us, (defScope st).names.lookup y.1 = some .local ∨
      ((defScope st).names.lookup y.1 = some .cell ∧ ((cellsFrom (s.heap.objs.size + 1) (defScope st).names []).lookup y.1).isSome = true) := by
    intro y hy
    have hm : y.1 ∈ ps := (List.of_mem_zip (show (y.1, y.2) ∈ ps.zip us from hy)).1
    exact (S.par y.1 hm).imp _root_.id fun z => ⟨z, PySem.W.cellsFrom_some _ _ _ (.inl z)⟩
  refine codeAny_call_function room.depth (inK _ _ lk) rfl S.co S.gen rfl (PySem.W.codeRec_of inK hcd) (bd _ _ _ _ ?_)
  refine wpAny_newFunctionEnv_cells S.kind kinds ?_
  rintro env rfl s1 inC
  refine ⟨nolim.keeps inC.toInCall.keep, codeAny_func ?_⟩
  obtain ⟨t, ht, hq⟩ := body cdv A outer s H vs Q E gA (room.deeper _) sps
  have J := inv_start (CX := L2.CX P w) (mg := mg) (base := base) (E := E) S room.hd ev lens rel inC
  refine wpAny_mono (ht.run [] s1 (start N vs) H _ J hq) ?_ fun _ _ z => z
  intro fl s' hs
  match fl, hs with
  | .ret u, hs => obtain ⟨v, σ', H', J', rv, q⟩ := hs; exact ⟨v, H', J'.os, J'.bare, J'.base, J'.hok, rv, q⟩
  | .next, hs => obtain ⟨σ', H', J', q⟩ := hs; exact ⟨.non, H', J'.os, J'.bare, J'.base, J'.hok, rfl, q⟩
  | .brk, hs => obtain ⟨_, _, _, q⟩ := hs; exact q.elim
  | .cont, hs => obtain ⟨_, _, _, q⟩ := hs; exact q.elim
structure CalX (P : Program) (w : World) (K : PySem.W.Frag) (mg : Str → Option Value) (base : Heap) (k : Nat) (x : Str) (sp : Sp) : Prop where
  ex : ∃ f fd ps, FnG P w K mg base (L2.CX P w) k f fd ps sp ∧ mg x = some (.ref f) ∧ PySem.W.keepIn K (.ref f) = true ∧ Binds K fd ps []
theorem def_okX {x : Str} {st : Stmt} {N ps : List Str} {k : Nat} {sp : Sp} (D : DefAt K mg x st ps) (S : FnScope N ps (defScope st))
    (ln : ∀ vs H Q E, sp vs H Q E → vs.length = ps.length)
    (body : ∀ (f : Addr) (cdv : Value) (A : Around) (outer : List Env) (s : Shared) (H : Hp) (vs : List V) (Q : VK) (E : XK),
      A.guards = some [] → Room k (A.deeper (envOfC x (defScope st) s.heap.objs.size f cdv)) → sp vs H Q E →
      ∃ t, PSs (cxOf (L2.CX P w) P w K mg base N x (defScope st) f cdv A outer s H E) (defBody st) t ∧ t { nx := fun _ H' => Q .non H', rt := Q } (start N vs) H) :
    CalX P w K mg base (k + 1) x sp := by
  obtain ⟨f, fd, F, b, m⟩ := D.ex
  exact ⟨f, fd, ps, okGX F S ln (body f), m, F.kp, b⟩
end
/-- a call that may raise, in a try -/
theorem pe_cgS {X : Cx} {k j : Nat} {x : Str} {p pos : Pos} {e : Expr} {es : List Expr} {t : TA} {sp : Sp} {W : WX} (c : CalX X.prog X.w X.K X.mg X.base k x sp) (hga : X.A.guards = some []) (room : Room j X.A) (hk : k ≤ j) (gl : Gl X x) (tk : Takes X W)
    (args : PA X (e :: es) t) (nd : (x == ("__debug__" : Str)) = false := by decide) (st : starEach (e :: es) X.env = (false, eval e X.env) :: starEach es X.env := by rfl) (pl : (backTo pos (starEach es X.env)).any (·.1) = false := by rfl) :
    PE X (.Call (.Name x p) (e :: es) [] pos) (tCallS sp (WE W) t) := by
  obtain ⟨f, fd, ps, F, m, kp, b⟩ := c.ex
  constructor
  intro pins s σ H Q I h
  refine wpAny_Call_Name_kw (ld_glob I gl m ?_ nd)
  refine PySem.W.callWith_K (h₀ := X.base) I.ok.mod.kin kp (thn (args.run pos pins s σ H _ I h) ?_) st pl
  intro us s1 ⟨vs, H1, I1, r, q⟩
  refine ⟨I1.kIn, ?_⟩
  have rel : Vals (vs ++ []) (us ++ []) := r.append .nil
  have q' : sp (vs ++ []) H1 Q (WE W σ) := by
    rw [List.append_nil]
    exact q
  have hl : (us ++ []).length = ps.length := rel.length.symm.trans (F.args _ _ _ _ q')
  refine wpAny_call (codeAny_mono (F.go hga (room.mono hk) I1.env0 (b s1 us I1.kIn hl) rel q') ?_)
  intro r s' hq
  match r, hq with
  | .error e, hq => exact passAt tk σ pins H1 s1 e s' I1 hq
  | .ok (.ret u), hq => exact I1.after hq
  | .ok .next, hq => exact hq.elim
  | .ok .brk, hq => exact hq.elim
  | .ok .cont, hq => exact hq.elim
/-! ### isinstance of a caught error that has a dict -/
structure ExcD (K : PySem.W.Frag) (D : Addr) : Prop where
  hc : (PySem.W.clsIn K D).isSome = true
  hg : PySem.W.findIn K (.ref D) "__getattribute__" = some (some (.builtin "BaseException.__getattribute__"))
  hk : PySem.W.findIn K (.ref D) "__getattr__" = some none
  hs : PySem.W.subIn K (.ref D) (.type "BaseException") = some true
  ha : PySem.W.findIn K (.ref D) "__class__" = some (some (.builtin "object.__class__"))
  hn : PySem.W.specialIn K (.builtin "object.__class__") "__get__" = some (some (.builtin "getset_descriptor.__get__"))
  ht : PySem.W.takesIn K (.builtin "object.__class__") = some true
  hm : PySem.W.mroIn K D (.type "object") = some true
def rIsX (K : PySem.W.Frag) (D a : Addr) (cls : Value) (d : Option Addr) : List V → Hp → VK → Prop := fun xs H Q => ∃ (c : V) (cv : Value) (b : Bool) (dd : Addr) (fs : List (Str × V)), xs = [.ref a, c] ∧ cls = .ref D ∧ d = some dd ∧ H dd = some (.xd fs) ∧ (∀ u, RelV c u → u = cv) ∧ PySem.W.kitOne K (.ref D) cv = some b ∧ Q (.bl b) H
theorem call_isX {X : Cx} {a D : Addr} {oe : Obj} {cls : Value} {d : Option Addr} {pn : List (Addr × Obj)} (C : ExcD X.K D) (hz : Zc cls d oe) (hf : ∃ vs, oe.data = .fields vs) : CallR (X.suite a ((a, oe) :: pn)) (.builtin "isinstance") (rIsX X.K D a cls d) := by
  intro pins s σ H xs us Q I r h
  obtain ⟨c, cv, b, dd, fs, rfl, rfl, rfl, hdd, hcv, e, q⟩ := h
  cases r with
  | cons rx rr =>
    cases rr with
    | cons rt rr =>
      cases rr
      cases rx
      have ec := hcv _ rt
      subst ec
      obtain ⟨hget, _⟩ := I.pin (a, oe) (List.mem_append.mpr (.inl List.mem_cons_self))
      obtain ⟨vs, hv⟩ := hf
      obtain ⟨mA, hns, _⟩ := I.hok dd _ hdd
      obtain ⟨od, ho, hl⟩ := lookIn_ns hns
      have J : PySem.W.InstAt s.heap a oe D (some od) := ⟨hget, hz.1, by unfold PySem.W.notCls; rw [hv] <;> rfl, by rw [hz.2]; exact ho⟩
      exact PySem.W.kia_one (PySem.W.kitx_exc C.hc C.hg C.hk C.hs C.ha C.hn C.ht C.hm) I.kIn J e (fun z => nomatch z) fun tk => ⟨.bl b, H, I.kept (t' := tk) fun _ _ z => z, rfl, q⟩
/-! ### the place of an item in a tuple -/
def rIndexT (K : PySem.W.Frag) : V → List V → Hp → VK → Prop := fun x xs H Q => ∃ (a : Addr) (ys : List V) (y : V) (j : Nat) (z : V), x = V.ref a ∧ xs = [y] ∧ SqT K H a ys ∧ flatV y = true ∧ ys.all flatV = true ∧ ys[j]? = some z ∧ eqV z y = true ∧
  (∀ (m : Nat) (z' : V), m < j → ys[m]? = some z' → eqV z' y = false) ∧ Q (.int (j : Nat)) H
theorem mt_indexT {X : Cx} : MtR X "tuple.index" (rIndexT X.K) := by
  intro pins s σ H x xs v us Q I rx rxs h
  obtain ⟨a, ys, y, j, z, rfl, rfl, hs, fy, fys, hz, hzj, hno, q⟩ := h
  cases rx
  cases rxs with
  | cons ry rt =>
    rename_i uy ut
    cases rt
    obtain ⟨its, rv, pl, hlen⟩ := I.tuple hs
    obtain ⟨⟨cls, dd, data, sl⟩, ho, hc, n, hd⟩ := pl
    simp only at hc hd
    subst hc hd
    obtain ⟨u, hu, ru⟩ := rv.get hz
    obtain ⟨hjl, hje⟩ := List.getElem?_eq_some_iff.mp hu
    have hvl := rv.length
    have hj : j < its.toArray.size := by simpa using hjl
    refine call_meets PySem.F.slot_tuple_index ⟨_, ho, rfl⟩ PySem.F.entry_tuple_index (PySem.F.args_tuple_index_2 _ _)
      (TI.tuple_indexAt a its.toArray n dd sl uy (eqU y) j hj ?_ ?_) ⟨ho, fun u' hu' => mem_eqAt ry fy rv fys u' (by simpa using hu'), ?_⟩
    · have e1 : its.toArray[j] = u := by simpa using hje
      rw [e1, eqU_of ru (flat_at fys hz)]
      exact hzj
    · intro m hm hmj
      have hml : m < its.length := by simpa using hm
      have hmy : m < ys.length := by omega
      have hy' : ys[m]? = some ys[m] := List.getElem?_eq_getElem hmy
      obtain ⟨u2, hu2, ru2⟩ := rv.get hy'
      obtain ⟨_, hme⟩ := List.getElem?_eq_some_iff.mp hu2
      have e1 : its.toArray[m] = u2 := by simpa using hme
      rw [e1, eqU_of ru2 (flat_at fys hy')]
      exact hno m _ hmj hy'
    · exact ⟨.int (j : Nat), H, I.tok _, ⟨_, rfl⟩, q⟩
/-! ### tuples that are known to have no dict: frozen -/
def kTupF (K : PySem.W.Frag) (x : V) (H : Hp) (Q : VK) : Prop :=
  ∃ p xs, x = .ref p ∧ SqL K H p xs ∧ ∀ q ob, H q = none → ob.dict = none → Q (.ref q) (upd H q (.frz ob (.tup xs)))
section
variable {X : Cx}
theorem rl_tupleF (pins : List (Addr × Obj)) (s : Shared) (σ : L2.St) (H : Hp) (x : V) (v : Value) (Q : VK) (I : Inv X pins σ H s) (r : L2.RelV x v) (h : kTupF X.K x H Q) :
    wpAny (model X.prog X.w) X.A (call (.type "tuple") [v]) (EP X pins σ Q) X.xe s := by
  obtain ⟨p, xs, e, hs, q⟩ := h
  subst e
  have e : v = .ref p := r
  subst e
  obtain ⟨its, rv, pl, hz⟩ := I.list hs
  refine call_tuple_list pl.isList (fun h' hk => ?_) (by rw [List.size_toArray, ← rv.length]; exact hz)
  have J := I.kept (t' := s.toks) hk
  have J2 : Inv X pins σ (upd H h'.objs.size (.frz { cls := .type "tuple", data := .seq its.toArray } (.tup xs))) { s with heap := h'.push { cls := .type "tuple", data := .seq its.toArray } } :=
    J.laid (t' := s.toks) (fun b o z => Heap.get?_push_of_some _ z) (Nat.le_refl _) (show ObjOk X.prog X.w _ _ _ (.frz _ (.tup xs)) from ⟨Heap.get?_push_size _ rfl, hz, its, rv, IsTup.new _ _⟩)
  exact ⟨.ref h'.objs.size, _, J2, rfl, q _ _ (J.hok.fresh (Nat.le_refl _)) rfl⟩
theorem pe_tupleF {a : Expr} {ta : TE} {p pos : Pos} (hg : Gl X "tuple") (hm : X.mg "tuple" = none) (ha : PE X a ta) (na : starEach [a] X.env = (false, eval a X.env) :: starEach [] X.env := by rfl) :
    PE X (.Call (.Name "tuple" p) [a] [] pos) (tThen ta (kTupF X.K)) :=
  ⟨fun pins s σ H Q I h => Call_ (ld_blt I hg hm boot_tuple (PyProof.Rows.callWith_type1 (one_arg ha I h (fun v s2 x H2 I2 r q => rl_tupleF pins s2 σ H2 x v Q I2 r q) na) na))⟩
def FzT (H : Hp) (p : Addr) (xs : List V) : Prop := ∃ ob, ob.dict = none ∧ H p = some (.frz ob (.tup xs))
theorem FzT.sq {K : PySem.W.Frag} {H : Hp} {p : Addr} {xs : List V} (h : FzT H p xs) : SqT K H p xs := by
  obtain ⟨ob, _, e⟩ := h
  exact .inl (.inr ⟨ob, e⟩)
theorem FzT.same {H H' : Hp} {p : Addr} {xs : List V} (h : FzT H p xs) (s : Same H H') : FzT H' p xs := by
  obtain ⟨ob, d, e⟩ := h
  exact ⟨ob, d, s _ _ e⟩
/-- a method of such a tuple -/
def tBMF (r : V → List V → Hp → VK → Prop) (to : TE) (t : TA) : TE := fun σ H Q => to σ H fun x H1 => ∃ p xs, x = .ref p ∧ FzT H1 p xs ∧ t σ H1 fun vs H2 => r x vs H2 Q
theorem pe_bmF {o e : Expr} {es : List Expr} {to : TE} {t : TA} {name : Str} {apos cpos : Pos} {id : String} {r : V → List V → Hp → VK → Prop} (pa : PlainAttrs "tuple") (slot : Slot "tuple" name id) (hty : typeOf (.builtin id) = pure (.type "method_descriptor")) (hm : MtR X id r) (ho : PE X o to) (ha : PA X (e :: es) t)
    (hbase : attributeBase o name X.env (eval o X.env) = eval o X.env := by rfl)
    (hfew : ((backTo cpos (starEach (e :: es) X.env)).all (fun x => !x.1) && (backToKw cpos (keywordEach [] X.env)).all (fun x => x.1.isSome)
      && decide ((e :: es).length + ([] : List Keyword).length + (if ([] : List Keyword).isEmpty then 0 else 1) < 30)) = true := by rfl)
    (hline : (apos.endLine == cpos.line) = true := by rfl) (hs : starEach (e :: es) X.env = (false, eval e X.env) :: starEach es X.env := by rfl) (hplain : (backTo cpos (starEach es X.env)).any (·.1) = false := by rfl) :
    PE X (.Call (.Attribute o name apos) (e :: es) [] cpos) (tBMF r to t) := by
  constructor
  intro pins s σ H Q I h
  refine wpAny_Call_method_late hbase hfew hline rfl (thn (ho.run pins s σ H _ I h) ?_)
  rintro v s1 ⟨x, H1, J, r1, p, xs, rfl, fz, q⟩
  have e : v = .ref p := r1
  subst e
  obtain ⟨ob, hd, ho2⟩ := fz
  obtain ⟨hget, _, its, _, o2, e2, c2, _⟩ := J.hok p _ ho2
  have eo : ob = o2 := by
    rw [hget] at e2
    exact Option.some.inj e2
  subst eo
  refine ⟨"tuple", id, pa, slot, hty, ⟨ob, hget, c2⟩, fun a ea => ?_, ?_⟩
  · cases ea
    exact ⟨ob, hget, hd⟩
  · have hA := ha.run cpos pins s1 σ H1 _ J q
    rw [hs] at hA ⊢
    refine Calls.callWith_builtin (by show (false || (backTo cpos (starEach es X.env)).any (·.1)) = false; rw [hplain] <;> rfl) (Calls.evalArgs_plain ?_)
    exact thn hA fun us s2 ⟨vs, H2, I2, r2, q2⟩ => hm pins s2 σ H2 _ vs _ us Q I2 r1 r2 q2
end
end VK

/-! VKit5: several except clauses that name the error -/
namespace VK
open PySem PySem.Spec PyProof.Rows L2
/-- what the clauses wish of an error, one behind the other; slot i is the name's -/
def wNames (K : PySem.W.Frag) (Wout : WX) (i : Nat) (D : Ends) : List (Value × (Addr → Value → Option Addr → TS)) → WX
  | [] => Wout
  | (c, ts) :: r => fun cls d σ H => ∃ b, PySem.W.exmOne K cls c = some b ∧
    (b = true → ∀ a, H a = none → ts a cls d { nx := fun τ G => D.nx (τ.set i none) G, rt := D.rt, bk := fun τ G => D.bk (τ.set i none) G, ct := fun τ G => D.ct (τ.set i none) G } (σ.set i (some (.ref a))) H) ∧
    (b = false → wNames K Wout i D r cls d σ H)
inductive HdsAs (X : Cx) (n : Str) : List ExceptHandler → List (Value × (Addr → Value → Option Addr → TS)) → Prop
  | nil : HdsAs X n [] []
  | cons {x : Str} {c : Value} {ts : Addr → Value → Option Addr → TS} {b₀ : Stmt} {suite : List Stmt} {np pos' : Pos} {hds : List ExceptHandler} {l : List (Value × (Addr → Value → Option Addr → TS))} (named : Names X x c)
      (suiteOk : ∀ (a : Addr) (oe : Obj) (cls : Value) (d : Option Addr) (pn : List (Addr × Obj)), Zc cls d oe → (∃ vs, oe.data = .fields vs) → PSs (X.suite a ((a, oe) :: pn)) (b₀ :: suite) (ts a cls d)) (r : HdsAs X n hds l) :
      HdsAs X n (.ExceptHandler (some (.Name x np)) (some n) (b₀ :: suite) pos' :: hds) ((c, ts) :: l)
section
variable {X : Cx} {n : Str} {i : Nat} {body : List Stmt} {h₀ : ExceptHandler} {hds : List ExceptHandler} {l : List (Value × (Addr → Value → Option Addr → TS))} {pos : Pos} {tb : WX → TS} {Wout : WX}
theorem ps_try_names (sk : X.stack = X.env :: X.outer) (fr : X.env.frame = some X.env.locals) (nodup : X.N.Nodup) (at_i : X.N[i]? = some n) (loc_n : X.env.kindOf n = some .local) (tk : Takes X Wout)
    (hb : ∀ (W : WX) (pn : List (Addr × Obj)) (xe : Value → Shared → Prop), Takes (X.tr pn xe) W → PassesOwn (model X.prog X.w) X.A X.env xe → PSs (X.tr pn xe) body (tb W))
    (hh : HdsAs X n (h₀ :: hds) l) : PS X (.Try body (h₀ :: hds) [] [] pos) (fun D σ H => tb (wNames X.K Wout i D l) D σ H) := by
  refine ⟨fun pins s σ H D I h => ?_⟩
  have ok := I.ok
  have frm : X.A.frames = some (X.env :: X.outer) := by rw [ok.frames, sk]
  refine wpAny_Try_except ?_
  refine wpAny_mono ((hb (wNames X.K Wout i D l) (X.pn ++ pins) (fun e s₁ => wpAny (model X.prog X.w) X.A (noteFrame e X.env) (fun _ s₂ => wpAny (model X.prog X.w) X.A (setFlight e none) (fun _ s₃ =>
    wpAny (model X.prog X.w) X.A (handleBy e X.env (h₀ :: hds)) (SP X pins D) X.xe s₃) X.xe s₂) X.xe s₁) (fun u sz xx => ?_) PassesOwn.looking).run [] s σ H D (I.toTry _) h) (fun f s1 got => ?_) (fun e s1 he => he)
  · -- the catch
    obtain ⟨a, B, sI, pinz, σz, Hz, cls, d, rfl, Jt, nb, up, sky, na, os, ag, w⟩ := xx
    have J : Inv X pins σz Hz sI := Jt.ofTry ok
    have skyA : Sky B (X.env :: X.outer) a (Zc cls d) X.env.locals sz.heap := by rw [← sk]; exact sky
    show wpAny (model X.prog X.w) X.A (noteFrame (.ref a) X.env) _ _ _
    refine Sky.land Zc.steady frm fr skyA fun hA flA upA => ?_
    have JA : Inv X pins σz Hz { sz with heap := hA } := J.landed nb flA.1 (up.trans upA) os ag
    obtain ⟨oA, vA, eA, zA, dA⟩ := flA.there
    have off_frames : ∀ {h : Heap} {o : Obj} {vs : Array Value}, h.FunFrames B (X.env :: X.outer) → h.get? a = some o → o.data = .fields vs → a ∉ frs (X.env :: X.outer) := fun {h o vs} ff e dd hm => by
      obtain ⟨_, o', e', hnf⟩ := ff.mem hm
      rw [e] at e'; cases e'
      exact hnf _ dd
    have offA := off_frames flA.2.2.1 eA dA
    have apartL : a ≠ X.env.locals := fun z => offA (List.mem_filterMap.mpr ⟨X.env, List.mem_cons_self, by rw [fr, z]⟩)
    have apartF : a ∉ X.fs := fun hm => by
      obtain ⟨e, he, q⟩ := List.mem_filterMap.mp hm
      exact offA (List.mem_filterMap.mpr ⟨e, List.mem_cons_of_mem _ he, q⟩)
    have SA := JA.suite eA dA na apartL apartF
    have walk : ∀ {hdz : List ExceptHandler} {lz : List (Value × (Addr → Value → Option Addr → TS))}, HdsAs X n hdz lz → wNames X.K Wout i D lz cls d σz Hz →
        wpAny (model X.prog X.w) X.A (handleBy (.ref a) X.env hdz) (SP X pins D) X.xe { sz with heap := hA } := by
      intro hdz lz clauses
      induction clauses with
      | nil =>
        intro w
        refine wpAny_handleBy_nil ?_
        obtain ⟨k1, k2, k3, oe, vs, T, oTr, tsz, he, hz, hd, h1, hr⟩ := id flA
        unfold PySem.passOn
        refine wpAny_bind (wpAny_field he hd h1 ?_)
        rw [if_neg (show ¬ ((Value.ref T == Value.none) = true) from by simp)]
        have onward : wpAny (model X.prog X.w) X.A (setFlight (.ref a) X.env.frame) (fun _ sC => wpAny (model X.prog X.w) X.A (throw (.ref a) : Sem Flow) (SP X pins D) X.xe sC) X.xe { sz with heap := hA } := by
          rw [fr]
          refine HandSPX.setFlight_upZ flA fun hB hhB upB => wpAny_throw (tk _ _ ?_)
          exact ⟨a, B, sI, pins, σz, Hz, cls, d, rfl, J, nb, (up.trans upA).trans upB, .inr (.inr (by rw [sk]; exact hhB)), na, os, ag, w⟩
        first
          | exact wpAny_bind (wpAny_pure (wpAny_bind onward))
          | exact wpAny_bind onward
      | @cons x c ts b₀ suite np posz hdt lt named suiteOk r rest_ok =>
        intro w
        obtain ⟨b, asked, good, bad⟩ := w
        refine wpAny_handleBy_cons (codeAny_handlers_test ?_) (by intro q; cases q)
        have tyLook : PySem.W.Looks (model X.prog X.w) hA (typeOf (.ref a)) cls := fun A Q E s k q => wpAny_typeOf_ref (k _ _ eA) (by rw [zA.1]; exact q)
        have exLook := PySem.W.exm_one (M := model X.prog X.w) (JA.kIn) tyLook asked
        have tried : ∀ {Q : Value → Shared → Prop} {E : Value → Shared → Prop}, Q c { sz with heap := hA } → wpAny (model X.prog X.w) (X.A.mark (some (.ref a))) (eval (.Name x np) X.env) Q E { sz with heap := hA } := fun {Q E} q => by
          obtain ⟨hg, dbg, hm | ⟨hm, hv, nameOk⟩⟩ := named
          · exact ld_glob (X := X.suite a ((a, oA) :: (X.pn ++ pins))) SA hg hm q dbg
          · exact ld_blt (X := X.suite a ((a, oA) :: (X.pn ++ pins))) SA hg hm hv q nameOk dbg
        refine tried (exLook.here ?_)
        cases b with
        | true =>
          refine codeAny_handlers_suite_as ?_
          refine HandSPX.lands_againZ flA fun hB flB upB => ?_
          have JB : Inv X pins σz Hz { sz with heap := hB } := J.landed nb flB.1 ((up.trans upA).trans upB) os ag
          obtain ⟨oB, vB, eB, zB, dB⟩ := flB.there
          have SB := JB.suite eB dB na apartL apartF
          refine store_ok (X := X.suite a ((a, oB) :: (X.pn ++ pins))) (v := .ref a) SB nodup at_i (.inl loc_n) rfl (fun sD SD => ?_) (.inr loc_n)
          refine wpAny_mono ((suiteOk a oB cls d (X.pn ++ pins) zB ⟨_, dB⟩).run [] sD _ Hz _ SD (good rfl a na)) (fun f sE got => ?_) (fun _ _ z => False.elim z)
          have last : ∀ {σE : L2.St} {HE : Hp} {Q : Shared → Prop}, Inv (X.suite a ((a, oB) :: (X.pn ++ pins))) [] σE HE sE → (∀ sF, Inv X pins (σE.set i none) HE sF → Q sF) →
              wpAny (model X.prog X.w) X.A (do bindName X.env n .none; unbindBehindTheSuite X.env n posz) (fun _ sF => Q sF) X.xe sE := fun {σE HE Q} SE hq => gone_ok (SE.unsuite ok) nodup at_i loc_n hq
          cases f with
          | next =>
            obtain ⟨σE, HE, SE, qE⟩ := got
            exact last SE fun sF JF => ⟨_, _, JF, qE⟩
          | brk =>
            obtain ⟨σE, HE, SE, qE⟩ := got
            exact last SE fun sF JF => ⟨_, _, JF, qE⟩
          | cont =>
            obtain ⟨σE, HE, SE, qE⟩ := got
            exact last SE fun sF JF => ⟨_, _, JF, qE⟩
          | ret u =>
            obtain ⟨vE, σE, HE, SE, rE, qE⟩ := got
            exact last SE fun sF JF => ⟨_, _, _, JF, rE, qE⟩
        | false =>
          show wpAny _ X.A (handleBy (.ref a) X.env hdt) _ _ _
          exact rest_ok (bad rfl)
    exact walk hh w
  · cases f with
    | next =>
      obtain ⟨σz, Hz, Jt, q⟩ := got
      exact wpAny_execs_nil ⟨σz, Hz, Jt.ofTry ok, q⟩
    | brk =>
      obtain ⟨σz, Hz, Jt, q⟩ := got
      exact ⟨σz, Hz, Jt.ofTry ok, q⟩
    | cont =>
      obtain ⟨σz, Hz, Jt, q⟩ := got
      exact ⟨σz, Hz, Jt.ofTry ok, q⟩
    | ret u =>
      obtain ⟨v, σz, Hz, Jt, r, q⟩ := got
      exact ⟨v, σz, Hz, Jt.ofTry ok, r, q⟩
end
end VK

/-! VKit6: own errors as values: made with fields, read, asked for their classes -/
namespace PySem
namespace ErV
open Builtin Builtin.ObjectAttr
open PySem.W PySem.Calls PyProof.Rows PySem.HandSPX PySem.OEX
section
variable {prog : Program} {w : World} {A : Around} {E : Value → Shared → Prop} {R : Result → Shared → Prop} {hp : Heap} {g : Array GenState} {d : Drawn} {t : Nat} {os : OsState}
theorem osa_first {K : Frag} {name : Str} {tk : Tok} {v : Value} {x C : Addr} {fv : Array Value} {cd : ClassData}
    (inK : K.In hp) (atx : hp.get? x = some { cls := .ref C, data := .fields fv }) (cdC : clsIn K C = some cd) (pass : ∀ self, refuseLoop self "__setattr__" cd.mro = pure ()) (some_ : cd.mro.isEmpty = false) (obj : cd.mro.contains (.type "object") = true) (dct : cd.hasDict = true) (no : findIn K (.ref C) name = some none)
    (done : ∀ h' tk' dx, (∀ b o, b ≠ x → hp.get? b = some o → h'.get? b = some o) → hp.objs.size ≤ dx → dx ≠ x → h'.get? x = some { cls := .ref C, dict := some dx, data := .fields fv } →
      h'.Ns1 dx (fun y => if y = name then some v else none) → R (.ok (.ret .none)) ⟨h', g, d, tk', os⟩) :
    codeAny (model prog w) A (.call (.builtin "object.__setattr__") ⟨[.ref x, .str name tk, v], []⟩) R ⟨hp, g, d, t, os⟩ := by
  have inst : InstAt hp x { cls := .ref C, data := .fields fv } C none := ⟨atx, rfl, rfl, trivial⟩
  have facts := PySem.F.store_object
  have apart : x ≠ hp.objs.size := Nat.ne_of_lt (Heap.lt_size atx)
  have isObj : Looks (model prog w) hp (isInstance (.ref x) (.type "object")) true := inst.type.andThen (looks_mroIn inK (by unfold mroIn; rw [cdC, Option.bind_some, if_neg (by rw [some_]; decide), obj]))
  refine codeAny_call_builtin facts.slot.plain facts.entry (@check_slot (model prog w) _ _ ⟨hp, g, d, t, os⟩ "object.__setattr__" "object" "__setattr__" (.ref x) [.str name tk, v] [] _ facts.kind facts.split isObj (facts.args (.ref x) (.str name tk) v) ?_)
  have mroLook : Looks (model prog w) hp (mroOf (.ref C)) cd.mro := (looks_clsIn inK cdC).andThen .now
  have noTaker : Looks (model prog w) hp (storeTaker? none) none := .now
  have dataLook : Looks (model prog w) hp (classData C) cd := looks_clsIn inK cdC
  rw [osa_eq, refuse_eq]
  refine wpAny_bind (wpAny_bind (inst.type.at (wpAny_bind (mroLook.at ?_))))
  rw [pass]
  refine wpAny_pure (wpAny_bind (inst.type.at (wpAny_bind ((looks_findIn inK no).at (wpAny_bind (noTaker.at ?_))))))
  show wpAny _ _ (storeInOwnDict (.ref x) (.ref C) (.str name tk) name v false) _ _ _
  obtain ⟨nm, bs, mro, ns, qn, hd, sn, sb, ab, col, del⟩ := cd
  dsimp only at dct
  subst dct
  unfold storeInOwnDict ownDictForStores
  repeat (first | with_reducible refine store_in_new ?_ ?_ | with_reducible refine wpAny_loadPart_at atx ?_ | with_reducible refine dataLook.at ?_ | wp_step)
  · exact ⟨_, #[], _, (Heap.get?_update_ne _ _ _ _ apart.symm).trans (Heap.get?_push_at rfl rfl), rfl, fun e he => absurd he (by simp), fun _ => rfl⟩
  · intro h' tk' nsN same
    have atP : (hp.push { cls := .type "dict", data := .dict #[] }).get? x = some { cls := .ref C, data := .fields fv } := Heap.get?_push_of_some _ atx
    refine done h' tk' hp.objs.size (fun b o hb ho => ?_) (Nat.le_refl _) apart.symm ?_ nsN
    · exact (same.2 b (Nat.ne_of_lt (Heap.lt_size ho))).trans ((Heap.get?_update_ne _ _ _ _ hb).trans (Heap.get?_push_of_some _ ho))
    · exact (same.2 x apart).trans (Heap.get?_update_self _ atP rfl)
theorem osa_next {K : Frag} {name : Str} {tk : Tok} {v : Value} {x C dx : Addr} {fv : Array Value} {cd : ClassData} {m0 : Str → Option Value} {nl : List Str}
    (inK : K.In hp) (atx : hp.get? x = some { cls := .ref C, dict := some dx, data := .fields fv }) (ns : hp.Ns1 dx m0) (wn : Within m0 nl) (few : nl.length ≤ 1000) (cdC : clsIn K C = some cd) (pass : ∀ self, refuseLoop self "__setattr__" cd.mro = pure ()) (some_ : cd.mro.isEmpty = false) (obj : cd.mro.contains (.type "object") = true) (dct : cd.hasDict = true)
    (no : findIn K (.ref C) name = some none)
    (done : ∀ h' tk', (∀ b o, b ≠ dx → hp.get? b = some o → h'.get? b = some o) → h'.Ns1 dx (fun y => if y = name then some v else m0 y) → R (.ok (.ret .none)) ⟨h', g, d, tk', os⟩) :
    codeAny (model prog w) A (.call (.builtin "object.__setattr__") ⟨[.ref x, .str name tk, v], []⟩) R ⟨hp, g, d, t, os⟩ := by
  obtain ⟨oD, esD, epD, hoD, hdD, _⟩ := ns.count wn
  have inst : InstAt hp x { cls := .ref C, dict := some dx, data := .fields fv } C (some oD) := ⟨atx, rfl, rfl, hoD⟩
  have facts := PySem.F.store_object
  have isObj : Looks (model prog w) hp (isInstance (.ref x) (.type "object")) true := inst.type.andThen (looks_mroIn inK (by unfold mroIn; rw [cdC, Option.bind_some, if_neg (by rw [some_]; decide), obj]))
  refine codeAny_call_builtin facts.slot.plain facts.entry (@check_slot (model prog w) _ _ ⟨hp, g, d, t, os⟩ "object.__setattr__" "object" "__setattr__" (.ref x) [.str name tk, v] [] _ facts.kind facts.split isObj (facts.args (.ref x) (.str name tk) v) ?_)
  have mroLook : Looks (model prog w) hp (mroOf (.ref C)) cd.mro := (looks_clsIn inK cdC).andThen .now
  have noTaker : Looks (model prog w) hp (storeTaker? none) none := .now
  have dataLook : Looks (model prog w) hp (classData C) cd := looks_clsIn inK cdC
  rw [osa_eq, refuse_eq]
  refine wpAny_bind (wpAny_bind (inst.type.at (wpAny_bind (mroLook.at ?_))))
  rw [pass]
  refine wpAny_pure (wpAny_bind (inst.type.at (wpAny_bind ((looks_findIn inK no).at (wpAny_bind (noTaker.at ?_))))))
  show wpAny _ _ (storeInOwnDict (.ref x) (.ref C) (.str name tk) name v false) _ _ _
  obtain ⟨nm, bs, mro, nsx, qn, hd, sn, sb, ab, col, del⟩ := cd
  dsimp only at dct
  subst dct
  unfold storeInOwnDict ownDictForStores
  repeat (first | with_reducible refine store_in_old ns wn few ?_ | with_reducible refine wpAny_loadPart_at atx ?_ | with_reducible refine dataLook.at ?_ | wp_step)
  intro h' tk' nsN same
  exact done h' tk' (fun b o hb ho => (same.2 b hb).trans ho) nsN
end
/-- what the written part says of an own error's class -/
structure ErC (K : Frag) (C : Addr) (B newId initId : String) (bmB : List Value) : Prop where
  cls : ∃ nm q N bs bm sn sub ab col dd k0 k1 k2 k3 k5, K.lookup C = some (excClassObj nm q C N bs bm true sn sub ab col dd k0 k1 k2 k3 k5 newId) ∧ (∀ self, refuseLoop self "__setattr__" (.ref C :: bm) = pure ()) ∧ (Value.ref C :: bm).contains (.type "object") = true ∧ (∀ X : String, bm.contains (.type X) = bmB.contains (.type X))
  fb : ExcBaseFacts B newId initId bmB
  sa : findIn K (.ref C) "__setattr__" = some (some (.builtin "object.__setattr__"))
  kC : keepIn K (.ref C) = true
theorem ErC.data {K : Frag} {C : Addr} {B newId initId : String} {bmB : List Value} (T : ErC K C B newId initId bmB) : ∃ cd, clsIn K C = some cd ∧ (∀ self, refuseLoop self "__setattr__" cd.mro = pure ()) ∧ cd.mro.isEmpty = false ∧ cd.mro.contains (.type "object") = true ∧ cd.hasDict = true := by
  obtain ⟨nm, q, N, bs, bm, sn, sub, ab, col, dd, k0, k1, k2, k3, k5, e, p, o, _⟩ := T.cls
  exact ⟨{ name := nm, bases := bs, mro := .ref C :: bm, ns := N, qualname := q, hasDict := true, slotNames := sn, subclasses := sub, abstract := ab, collection := col, hasDel := false }, by unfold clsIn; rw [e] <;> rfl, p, rfl, o, rfl⟩
/-- the fields' map, the last one first -/
def fieldsOf : List Str → List Value → Str → Option Value
  | f :: fs, v :: vs, y => match fieldsOf fs vs y with
    | some u => some u
    | none => if y = f then some v else none
  | _, _, _ => none
structure InitTo (h h' : Heap) (x C dx t1 : Addr) (m : Str → Option Value) : Prop where
  keep : ∀ b o, b ≠ x → h.get? b = some o → h'.get? b = some o
  obj : h'.get? x = some { cls := .ref C, dict := some dx, data := .fields #[.ref t1, .none, .none, .none, .bool false, .none] }
  dbig : h.objs.size ≤ dx
  dne : dx ≠ x
  ns : h'.Ns1 dx m
/-- the names' map of one or two fields -/
def mapOf : List Str → List Value → Str → Option Value
  | [f], [v] => fun y => if y = f then some v else none
  | [f, e], [v, u] => fun y => if y = e then some u else if y = f then some v else none
  | _, _ => fun _ => none
def InitDoes (K : Frag) (C fI : Addr) (fs : List Str) : Prop :=
  ∀ {prog : Program} {w : World} {A : Around} {R : Result → Shared → Prop} {s : Shared} {x t0 : Addr} {vs : List Value}, vs.length = fs.length → K.In s.heap → s.heap.NoLimit → s.heap.get? x = some (excO C t0) → K.lookup x = none → A.depth < recursionLimit →
    (∀ h' tk dx, InitTo s.heap h' x C dx t0 (mapOf fs vs) → R (.ok (.ret .none)) { s with heap := h', toks := tk }) → codeAny (model prog w) A (.call (.ref fI) ⟨.ref x :: vs, []⟩) R s
theorem within1 {f : Str} {v : Value} : Within (fun y => if y = f then some v else none) [f] := fun y hy => by
  by_cases e : y = f
  · rw [e]
    exact List.mem_cons_self
  · exact absurd (if_neg e) hy
def iA_word (p1 p2 : Pos) : Arguments := { posonlyargs := [], args := [{ arg := "self", annotation := none, pos := p1 }, { arg := "word", annotation := none, pos := p2 }], vararg := none, kwonlyargs := [], kw_defaults := [], kwarg := none, defaults := [] }
def iB_word (q00 q01 q02 q03 : Pos) : List Stmt := [.Assign [.Attribute (.Name "self" q00) "word" q01] (.Name "word" q02) q03]
def iS_word : Scope := { kind := .function, names := [(PySem.Str.ofString "self", .local), (PySem.Str.ofString "word", .local)], isGenerator := false, isCoroutine := false, more := [] }
theorem init_word {K : Frag} {C fI : Addr} {B newId initId qn : String} {bmB : List Value} (T : ErC K C B newId initId bmB) (no0 : findIn K (.ref C) "word" = some none)
    (fn : ∃ (oc : Value) (od : Option Addr) (doc pm : Value) (an : Option Addr) (cdv ct : Value) (osl : Array (Option Value)) (p1 p2 q00 q01 q02 q03 : Pos),
      K.lookup fI = some ⟨oc, od, .func (fnOf "__init__" (Str.ofString qn) (iA_word p1 p2) (iB_word q00 q01 q02 q03) iS_word .none .none doc pm an cdv ct), osl⟩ ∧ codeIn K cdv (Str.ofString qn) = true) : InitDoes K C fI [("word" : Str)] := by
  intro prog w A R s x t0 vs hl X hlim hx hnx hroom hq
  obtain ⟨v0, rfl⟩ : ∃ v0, vs = [v0] := by
    match vs, hl with
    | [v0], _ => exact ⟨v0, rfl⟩
  obtain ⟨oc, od, doc, pm, an, cdv, ct, osl, p1, p2, q00, q01, q02, q03, ho, hcd⟩ := fn
  obtain ⟨cd, hcl, hpass, hne, hob, hdict⟩ := T.data
  refine Att.call_fn (binds := [("self", .ref x), ("word", v0)]) X hlim ho hcd hroom (BindsTo.of_eq (by first | rfl | with_unfolding_all rfl)) (by first | rfl | decide | with_unfolding_all rfl) (fun s₁ IC => ?_) rfl rfl rfl
  obtain ⟨h₁, tk₁, rfl⟩ := IC.toInCall.same
  have kA : ∀ b o, s.heap.get? b = some o → h₁.get? b = some o := IC.toInCall.keep
  have nsL := IC.toInCall.ns
  have neL : s.heap.objs.size ≠ x := Nat.ne_of_gt (Heap.lt_size hx)
  have inA : K.In h₁ := X.keeps kA
  have atA := kA _ _ hx
  have big : s.heap.objs.size < h₁.objs.size := nsL.lt
  show wpAny _ _ (execs _ _) _ _ _
  refine wpAny_execs_cons (plainObj_wpAny_Assign_Attribute ?_)
  refine NmX.ldC (v := v0) nsL (by first | rfl | with_unfolding_all rfl | kernel_rfl) (NmX.ldC (v := .ref x) nsL (by first | rfl | with_unfolding_all rfl | kernel_rfl) ?_)
  refine set_plain inA (ox := excO C t0) (od := none) ⟨atA, rfl, rfl, trivial⟩ T.sa ?_
  refine osa_first inA atA hcl hpass hne hob hdict no0 (fun hB tkB dx kB dn dne atB nsB => ?_)
  show wpAny _ _ (execs _ _) _ _ _
  exact wpAny_execs_nil (hq hB tkB dx ⟨fun b o hb e => kB b o hb (kA b o e), atB, Nat.le_of_lt (Nat.lt_of_lt_of_le big dn), dne, nsB⟩)
def iA_size (p1 p2 : Pos) : Arguments := { posonlyargs := [], args := [{ arg := "self", annotation := none, pos := p1 }, { arg := "size", annotation := none, pos := p2 }], vararg := none, kwonlyargs := [], kw_defaults := [], kwarg := none, defaults := [] }
def iB_size (q00 q01 q02 q03 : Pos) : List Stmt := [.Assign [.Attribute (.Name "self" q00) "size" q01] (.Name "size" q02) q03]
def iS_size : Scope := { kind := .function, names := [(PySem.Str.ofString "self", .local), (PySem.Str.ofString "size", .local)], isGenerator := false, isCoroutine := false, more := [] }
theorem init_size {K : Frag} {C fI : Addr} {B newId initId qn : String} {bmB : List Value} (T : ErC K C B newId initId bmB) (no0 : findIn K (.ref C) "size" = some none)
    (fn : ∃ (oc : Value) (od : Option Addr) (doc pm : Value) (an : Option Addr) (cdv ct : Value) (osl : Array (Option Value)) (p1 p2 q00 q01 q02 q03 : Pos),
      K.lookup fI = some ⟨oc, od, .func (fnOf "__init__" (Str.ofString qn) (iA_size p1 p2) (iB_size q00 q01 q02 q03) iS_size .none .none doc pm an cdv ct), osl⟩ ∧ codeIn K cdv (Str.ofString qn) = true) : InitDoes K C fI [("size" : Str)] := by
  intro prog w A R s x t0 vs hl X hlim hx hnx hroom hq
  obtain ⟨v0, rfl⟩ : ∃ v0, vs = [v0] := by
    match vs, hl with
    | [v0], _ => exact ⟨v0, rfl⟩
  obtain ⟨oc, od, doc, pm, an, cdv, ct, osl, p1, p2, q00, q01, q02, q03, ho, hcd⟩ := fn
  obtain ⟨cd, hcl, hpass, hne, hob, hdict⟩ := T.data
  refine Att.call_fn (binds := [("self", .ref x), ("size", v0)]) X hlim ho hcd hroom (BindsTo.of_eq (by first | rfl | with_unfolding_all rfl)) (by first | rfl | decide | with_unfolding_all rfl) (fun s₁ IC => ?_) rfl rfl rfl
  obtain ⟨h₁, tk₁, rfl⟩ := IC.toInCall.same
  have kA : ∀ b o, s.heap.get? b = some o → h₁.get? b = some o := IC.toInCall.keep
  have nsL := IC.toInCall.ns
  have neL : s.heap.objs.size ≠ x := Nat.ne_of_gt (Heap.lt_size hx)
  have inA : K.In h₁ := X.keeps kA
  have atA := kA _ _ hx
  have big : s.heap.objs.size < h₁.objs.size := nsL.lt
  show wpAny _ _ (execs _ _) _ _ _
  refine wpAny_execs_cons (plainObj_wpAny_Assign_Attribute ?_)
  refine NmX.ldC (v := v0) nsL (by first | rfl | with_unfolding_all rfl | kernel_rfl) (NmX.ldC (v := .ref x) nsL (by first | rfl | with_unfolding_all rfl | kernel_rfl) ?_)
  refine set_plain inA (ox := excO C t0) (od := none) ⟨atA, rfl, rfl, trivial⟩ T.sa ?_
  refine osa_first inA atA hcl hpass hne hob hdict no0 (fun hB tkB dx kB dn dne atB nsB => ?_)
  show wpAny _ _ (execs _ _) _ _ _
  exact wpAny_execs_nil (hq hB tkB dx ⟨fun b o hb e => kB b o hb (kA b o e), atB, Nat.le_of_lt (Nat.lt_of_lt_of_le big dn), dne, nsB⟩)
def iA_name (p1 p2 : Pos) : Arguments := { posonlyargs := [], args := [{ arg := "self", annotation := none, pos := p1 }, { arg := "name", annotation := none, pos := p2 }], vararg := none, kwonlyargs := [], kw_defaults := [], kwarg := none, defaults := [] }
def iB_name (q00 q01 q02 q03 : Pos) : List Stmt := [.Assign [.Attribute (.Name "self" q00) "name" q01] (.Name "name" q02) q03]
def iS_name : Scope := { kind := .function, names := [(PySem.Str.ofString "self", .local), (PySem.Str.ofString "name", .local)], isGenerator := false, isCoroutine := false, more := [] }
theorem init_name {K : Frag} {C fI : Addr} {B newId initId qn : String} {bmB : List Value} (T : ErC K C B newId initId bmB) (no0 : findIn K (.ref C) "name" = some none)
    (fn : ∃ (oc : Value) (od : Option Addr) (doc pm : Value) (an : Option Addr) (cdv ct : Value) (osl : Array (Option Value)) (p1 p2 q00 q01 q02 q03 : Pos),
      K.lookup fI = some ⟨oc, od, .func (fnOf "__init__" (Str.ofString qn) (iA_name p1 p2) (iB_name q00 q01 q02 q03) iS_name .none .none doc pm an cdv ct), osl⟩ ∧ codeIn K cdv (Str.ofString qn) = true) : InitDoes K C fI [("name" : Str)] := by
  intro prog w A R s x t0 vs hl X hlim hx hnx hroom hq
  obtain ⟨v0, rfl⟩ : ∃ v0, vs = [v0] := by
    match vs, hl with
    | [v0], _ => exact ⟨v0, rfl⟩
  obtain ⟨oc, od, doc, pm, an, cdv, ct, osl, p1, p2, q00, q01, q02, q03, ho, hcd⟩ := fn
  obtain ⟨cd, hcl, hpass, hne, hob, hdict⟩ := T.data
  refine Att.call_fn (binds := [("self", .ref x), ("name", v0)]) X hlim ho hcd hroom (BindsTo.of_eq (by first | rfl | with_unfolding_all rfl)) (by first | rfl | decide | with_unfolding_all rfl) (fun s₁ IC => ?_) rfl rfl rfl
  obtain ⟨h₁, tk₁, rfl⟩ := IC.toInCall.same
  have kA : ∀ b o, s.heap.get? b = some o → h₁.get? b = some o := IC.toInCall.keep
  have nsL := IC.toInCall.ns
  have neL : s.heap.objs.size ≠ x := Nat.ne_of_gt (Heap.lt_size hx)
  have inA : K.In h₁ := X.keeps kA
  have atA := kA _ _ hx
  have big : s.heap.objs.size < h₁.objs.size := nsL.lt
  show wpAny _ _ (execs _ _) _ _ _
  refine wpAny_execs_cons (plainObj_wpAny_Assign_Attribute ?_)
  refine NmX.ldC (v := v0) nsL (by first | rfl | with_unfolding_all rfl | kernel_rfl) (NmX.ldC (v := .ref x) nsL (by first | rfl | with_unfolding_all rfl | kernel_rfl) ?_)
  refine set_plain inA (ox := excO C t0) (od := none) ⟨atA, rfl, rfl, trivial⟩ T.sa ?_
  refine osa_first inA atA hcl hpass hne hob hdict no0 (fun hB tkB dx kB dn dne atB nsB => ?_)
  show wpAny _ _ (execs _ _) _ _ _
  exact wpAny_execs_nil (hq hB tkB dx ⟨fun b o hb e => kB b o hb (kA b o e), atB, Nat.le_of_lt (Nat.lt_of_lt_of_le big dn), dne, nsB⟩)
def iA_limit (p1 p2 : Pos) : Arguments := { posonlyargs := [], args := [{ arg := "self", annotation := none, pos := p1 }, { arg := "limit", annotation := none, pos := p2 }], vararg := none, kwonlyargs := [], kw_defaults := [], kwarg := none, defaults := [] }
def iB_limit (q00 q01 q02 q03 : Pos) : List Stmt := [.Assign [.Attribute (.Name "self" q00) "limit" q01] (.Name "limit" q02) q03]
def iS_limit : Scope := { kind := .function, names := [(PySem.Str.ofString "self", .local), (PySem.Str.ofString "limit", .local)], isGenerator := false, isCoroutine := false, more := [] }
theorem init_limit {K : Frag} {C fI : Addr} {B newId initId qn : String} {bmB : List Value} (T : ErC K C B newId initId bmB) (no0 : findIn K (.ref C) "limit" = some none)
    (fn : ∃ (oc : Value) (od : Option Addr) (doc pm : Value) (an : Option Addr) (cdv ct : Value) (osl : Array (Option Value)) (p1 p2 q00 q01 q02 q03 : Pos),
      K.lookup fI = some ⟨oc, od, .func (fnOf "__init__" (Str.ofString qn) (iA_limit p1 p2) (iB_limit q00 q01 q02 q03) iS_limit .none .none doc pm an cdv ct), osl⟩ ∧ codeIn K cdv (Str.ofString qn) = true) : InitDoes K C fI [("limit" : Str)] := by
  intro prog w A R s x t0 vs hl X hlim hx hnx hroom hq
  obtain ⟨v0, rfl⟩ : ∃ v0, vs = [v0] := by
    match vs, hl with
    | [v0], _ => exact ⟨v0, rfl⟩
  obtain ⟨oc, od, doc, pm, an, cdv, ct, osl, p1, p2, q00, q01, q02, q03, ho, hcd⟩ := fn
  obtain ⟨cd, hcl, hpass, hne, hob, hdict⟩ := T.data
  refine Att.call_fn (binds := [("self", .ref x), ("limit", v0)]) X hlim ho hcd hroom (BindsTo.of_eq (by first | rfl | with_unfolding_all rfl)) (by first | rfl | decide | with_unfolding_all rfl) (fun s₁ IC => ?_) rfl rfl rfl
  obtain ⟨h₁, tk₁, rfl⟩ := IC.toInCall.same
  have kA : ∀ b o, s.heap.get? b = some o → h₁.get? b = some o := IC.toInCall.keep
  have nsL := IC.toInCall.ns
  have neL : s.heap.objs.size ≠ x := Nat.ne_of_gt (Heap.lt_size hx)
  have inA : K.In h₁ := X.keeps kA
  have atA := kA _ _ hx
  have big : s.heap.objs.size < h₁.objs.size := nsL.lt
  show wpAny _ _ (execs _ _) _ _ _
  refine wpAny_execs_cons (plainObj_wpAny_Assign_Attribute ?_)
  refine NmX.ldC (v := v0) nsL (by first | rfl | with_unfolding_all rfl | kernel_rfl) (NmX.ldC (v := .ref x) nsL (by first | rfl | with_unfolding_all rfl | kernel_rfl) ?_)
  refine set_plain inA (ox := excO C t0) (od := none) ⟨atA, rfl, rfl, trivial⟩ T.sa ?_
  refine osa_first inA atA hcl hpass hne hob hdict no0 (fun hB tkB dx kB dn dne atB nsB => ?_)
  show wpAny _ _ (execs _ _) _ _ _
  exact wpAny_execs_nil (hq hB tkB dx ⟨fun b o hb e => kB b o hb (kA b o e), atB, Nat.le_of_lt (Nat.lt_of_lt_of_le big dn), dne, nsB⟩)
def iA_numbers (p1 p2 : Pos) : Arguments := { posonlyargs := [], args := [{ arg := "self", annotation := none, pos := p1 }, { arg := "numbers", annotation := none, pos := p2 }], vararg := none, kwonlyargs := [], kw_defaults := [], kwarg := none, defaults := [] }
def iB_numbers (q00 q01 q02 q03 : Pos) : List Stmt := [.Assign [.Attribute (.Name "self" q00) "numbers" q01] (.Name "numbers" q02) q03]
def iS_numbers : Scope := { kind := .function, names := [(PySem.Str.ofString "self", .local), (PySem.Str.ofString "numbers", .local)], isGenerator := false, isCoroutine := false, more := [] }
theorem init_numbers {K : Frag} {C fI : Addr} {B newId initId qn : String} {bmB : List Value} (T : ErC K C B newId initId bmB) (no0 : findIn K (.ref C) "numbers" = some none)
    (fn : ∃ (oc : Value) (od : Option Addr) (doc pm : Value) (an : Option Addr) (cdv ct : Value) (osl : Array (Option Value)) (p1 p2 q00 q01 q02 q03 : Pos),
      K.lookup fI = some ⟨oc, od, .func (fnOf "__init__" (Str.ofString qn) (iA_numbers p1 p2) (iB_numbers q00 q01 q02 q03) iS_numbers .none .none doc pm an cdv ct), osl⟩ ∧ codeIn K cdv (Str.ofString qn) = true) : InitDoes K C fI [("numbers" : Str)] := by
  intro prog w A R s x t0 vs hl X hlim hx hnx hroom hq
  obtain ⟨v0, rfl⟩ : ∃ v0, vs = [v0] := by
    match vs, hl with
    | [v0], _ => exact ⟨v0, rfl⟩
  obtain ⟨oc, od, doc, pm, an, cdv, ct, osl, p1, p2, q00, q01, q02, q03, ho, hcd⟩ := fn
  obtain ⟨cd, hcl, hpass, hne, hob, hdict⟩ := T.data
  refine Att.call_fn (binds := [("self", .ref x), ("numbers", v0)]) X hlim ho hcd hroom (BindsTo.of_eq (by first | rfl | with_unfolding_all rfl)) (by first | rfl | decide | with_unfolding_all rfl) (fun s₁ IC => ?_) rfl rfl rfl
  obtain ⟨h₁, tk₁, rfl⟩ := IC.toInCall.same
  have kA : ∀ b o, s.heap.get? b = some o → h₁.get? b = some o := IC.toInCall.keep
  have nsL := IC.toInCall.ns
  have neL : s.heap.objs.size ≠ x := Nat.ne_of_gt (Heap.lt_size hx)
  have inA : K.In h₁ := X.keeps kA
  have atA := kA _ _ hx
  have big : s.heap.objs.size < h₁.objs.size := nsL.lt
  show wpAny _ _ (execs _ _) _ _ _
  refine wpAny_execs_cons (plainObj_wpAny_Assign_Attribute ?_)
  refine NmX.ldC (v := v0) nsL (by first | rfl | with_unfolding_all rfl | kernel_rfl) (NmX.ldC (v := .ref x) nsL (by first | rfl | with_unfolding_all rfl | kernel_rfl) ?_)
  refine set_plain inA (ox := excO C t0) (od := none) ⟨atA, rfl, rfl, trivial⟩ T.sa ?_
  refine osa_first inA atA hcl hpass hne hob hdict no0 (fun hB tkB dx kB dn dne atB nsB => ?_)
  show wpAny _ _ (execs _ _) _ _ _
  exact wpAny_execs_nil (hq hB tkB dx ⟨fun b o hb e => kB b o hb (kA b o e), atB, Nat.le_of_lt (Nat.lt_of_lt_of_le big dn), dne, nsB⟩)
def iA_number (p1 p2 : Pos) : Arguments := { posonlyargs := [], args := [{ arg := "self", annotation := none, pos := p1 }, { arg := "number", annotation := none, pos := p2 }], vararg := none, kwonlyargs := [], kw_defaults := [], kwarg := none, defaults := [] }
def iB_number (q00 q01 q02 q03 : Pos) : List Stmt := [.Assign [.Attribute (.Name "self" q00) "number" q01] (.Name "number" q02) q03]
def iS_number : Scope := { kind := .function, names := [(PySem.Str.ofString "self", .local), (PySem.Str.ofString "number", .local)], isGenerator := false, isCoroutine := false, more := [] }
theorem init_number {K : Frag} {C fI : Addr} {B newId initId qn : String} {bmB : List Value} (T : ErC K C B newId initId bmB) (no0 : findIn K (.ref C) "number" = some none)
    (fn : ∃ (oc : Value) (od : Option Addr) (doc pm : Value) (an : Option Addr) (cdv ct : Value) (osl : Array (Option Value)) (p1 p2 q00 q01 q02 q03 : Pos),
      K.lookup fI = some ⟨oc, od, .func (fnOf "__init__" (Str.ofString qn) (iA_number p1 p2) (iB_number q00 q01 q02 q03) iS_number .none .none doc pm an cdv ct), osl⟩ ∧ codeIn K cdv (Str.ofString qn) = true) : InitDoes K C fI [("number" : Str)] := by
  intro prog w A R s x t0 vs hl X hlim hx hnx hroom hq
  obtain ⟨v0, rfl⟩ : ∃ v0, vs = [v0] := by
    match vs, hl with
    | [v0], _ => exact ⟨v0, rfl⟩
  obtain ⟨oc, od, doc, pm, an, cdv, ct, osl, p1, p2, q00, q01, q02, q03, ho, hcd⟩ := fn
  obtain ⟨cd, hcl, hpass, hne, hob, hdict⟩ := T.data
  refine Att.call_fn (binds := [("self", .ref x), ("number", v0)]) X hlim ho hcd hroom (BindsTo.of_eq (by first | rfl | with_unfolding_all rfl)) (by first | rfl | decide | with_unfolding_all rfl) (fun s₁ IC => ?_) rfl rfl rfl
  obtain ⟨h₁, tk₁, rfl⟩ := IC.toInCall.same
  have kA : ∀ b o, s.heap.get? b = some o → h₁.get? b = some o := IC.toInCall.keep
  have nsL := IC.toInCall.ns
  have neL : s.heap.objs.size ≠ x := Nat.ne_of_gt (Heap.lt_size hx)
  have inA : K.In h₁ := X.keeps kA
  have atA := kA _ _ hx
  have big : s.heap.objs.size < h₁.objs.size := nsL.lt
  show wpAny _ _ (execs _ _) _ _ _
  refine wpAny_execs_cons (plainObj_wpAny_Assign_Attribute ?_)
  refine NmX.ldC (v := v0) nsL (by first | rfl | with_unfolding_all rfl | kernel_rfl) (NmX.ldC (v := .ref x) nsL (by first | rfl | with_unfolding_all rfl | kernel_rfl) ?_)
  refine set_plain inA (ox := excO C t0) (od := none) ⟨atA, rfl, rfl, trivial⟩ T.sa ?_
  refine osa_first inA atA hcl hpass hne hob hdict no0 (fun hB tkB dx kB dn dne atB nsB => ?_)
  show wpAny _ _ (execs _ _) _ _ _
  exact wpAny_execs_nil (hq hB tkB dx ⟨fun b o hb e => kB b o hb (kA b o e), atB, Nat.le_of_lt (Nat.lt_of_lt_of_le big dn), dne, nsB⟩)
def iA_number_word (p1 p2 p3 : Pos) : Arguments := { posonlyargs := [], args := [{ arg := "self", annotation := none, pos := p1 }, { arg := "number", annotation := none, pos := p2 }, { arg := "word", annotation := none, pos := p3 }], vararg := none, kwonlyargs := [], kw_defaults := [], kwarg := none, defaults := [] }
def iB_number_word (q00 q01 q02 q03 q10 q11 q12 q13 : Pos) : List Stmt := [.Assign [.Attribute (.Name "self" q00) "number" q01] (.Name "number" q02) q03, .Assign [.Attribute (.Name "self" q10) "word" q11] (.Name "word" q12) q13]
def iS_number_word : Scope := { kind := .function, names := [(PySem.Str.ofString "self", .local), (PySem.Str.ofString "number", .local), (PySem.Str.ofString "word", .local)], isGenerator := false, isCoroutine := false, more := [] }
theorem init_number_word {K : Frag} {C fI : Addr} {B newId initId qn : String} {bmB : List Value} (T : ErC K C B newId initId bmB) (no0 : findIn K (.ref C) "number" = some none) (no1 : findIn K (.ref C) "word" = some none)
    (fn : ∃ (oc : Value) (od : Option Addr) (doc pm : Value) (an : Option Addr) (cdv ct : Value) (osl : Array (Option Value)) (p1 p2 p3 q00 q01 q02 q03 q10 q11 q12 q13 : Pos),
      K.lookup fI = some ⟨oc, od, .func (fnOf "__init__" (Str.ofString qn) (iA_number_word p1 p2 p3) (iB_number_word q00 q01 q02 q03 q10 q11 q12 q13) iS_number_word .none .none doc pm an cdv ct), osl⟩ ∧ codeIn K cdv (Str.ofString qn) = true) : InitDoes K C fI [("number" : Str), ("word" : Str)] := by
  intro prog w A R s x t0 vs hl X hlim hx hnx hroom hq
  obtain ⟨v0, v1, rfl⟩ : ∃ v0 v1, vs = [v0, v1] := by
    match vs, hl with
    | [v0, v1], _ => exact ⟨v0, v1, rfl⟩
  obtain ⟨oc, od, doc, pm, an, cdv, ct, osl, p1, p2, p3, q00, q01, q02, q03, q10, q11, q12, q13, ho, hcd⟩ := fn
  obtain ⟨cd, hcl, hpass, hne, hob, hdict⟩ := T.data
  refine Att.call_fn (binds := [("self", .ref x), ("number", v0), ("word", v1)]) X hlim ho hcd hroom (BindsTo.of_eq (by first | rfl | with_unfolding_all rfl)) (by first | rfl | decide | with_unfolding_all rfl) (fun s₁ IC => ?_) rfl rfl rfl
  obtain ⟨h₁, tk₁, rfl⟩ := IC.toInCall.same
  have kA : ∀ b o, s.heap.get? b = some o → h₁.get? b = some o := IC.toInCall.keep
  have nsL := IC.toInCall.ns
  have neL : s.heap.objs.size ≠ x := Nat.ne_of_gt (Heap.lt_size hx)
  have inA : K.In h₁ := X.keeps kA
  have atA := kA _ _ hx
  have big : s.heap.objs.size < h₁.objs.size := nsL.lt
  show wpAny _ _ (execs _ _) _ _ _
  refine wpAny_execs_cons (plainObj_wpAny_Assign_Attribute ?_)
  refine NmX.ldC (v := v0) nsL (by first | rfl | with_unfolding_all rfl | kernel_rfl) (NmX.ldC (v := .ref x) nsL (by first | rfl | with_unfolding_all rfl | kernel_rfl) ?_)
  refine set_plain inA (ox := excO C t0) (od := none) ⟨atA, rfl, rfl, trivial⟩ T.sa ?_
  refine osa_first inA atA hcl hpass hne hob hdict no0 (fun hB tkB dx kB dn dne atB nsB => ?_)
  show wpAny _ _ (execs _ _) _ _ _
  have nsL2 : hB.Ns s.heap.objs.size _ := nsL.at fun o e => kB _ o neL e
  have notK : ∀ b o, K.lookup b = some o → hB.get? b = some o := fun b o e => kB b o (fun z => by rw [z, hnx] at e; cases e) (inA b o e)
  refine wpAny_execs_cons (plainObj_wpAny_Assign_Attribute ?_)
  refine NmX.ldC (v := v1) nsL2 (by first | rfl | with_unfolding_all rfl | kernel_rfl) (NmX.ldC (v := .ref x) nsL2 (by first | rfl | with_unfolding_all rfl | kernel_rfl) ?_)
  have inB : K.In hB := notK
  obtain ⟨oD, _, _, hoD, _, _⟩ := nsB.count within1
  refine set_plain inB (ox := { cls := .ref C, dict := some dx, data := .fields #[.ref t0, .none, .none, .none, .bool false, .none] }) (od := some oD) ⟨atB, rfl, rfl, hoD⟩ T.sa ?_
  refine osa_next inB atB nsB within1 (Nat.le_of_ble_eq_true rfl) hcl hpass hne hob hdict no1 (fun hE tkE kE nsE => ?_)
  show wpAny _ _ (execs _ _) _ _ _
  have ndx : ∀ b o, s.heap.get? b = some o → b ≠ dx := fun b o e z => by
    have z1 := Heap.lt_size e
    have z2 : h₁.objs.size ≤ dx := dn
    rw [z] at z1
    exact absurd (Nat.lt_of_lt_of_le (Nat.lt_trans z1 big) z2) (Nat.lt_irrefl _)
  exact wpAny_execs_nil (hq hE tkE dx ⟨fun b o hb e => kE b o (ndx b o e) (kB b o hb (kA b o e)), kE _ _ (Ne.symm dne) atB, Nat.le_of_lt (Nat.lt_of_lt_of_le big dn), dne, nsE⟩)
def iA_line_number (p1 p2 p3 : Pos) : Arguments := { posonlyargs := [], args := [{ arg := "self", annotation := none, pos := p1 }, { arg := "line", annotation := none, pos := p2 }, { arg := "number", annotation := none, pos := p3 }], vararg := none, kwonlyargs := [], kw_defaults := [], kwarg := none, defaults := [] }
def iB_line_number (q00 q01 q02 q03 q10 q11 q12 q13 : Pos) : List Stmt := [.Assign [.Attribute (.Name "self" q00) "line" q01] (.Name "line" q02) q03, .Assign [.Attribute (.Name "self" q10) "number" q11] (.Name "number" q12) q13]
def iS_line_number : Scope := { kind := .function, names := [(PySem.Str.ofString "self", .local), (PySem.Str.ofString "line", .local), (PySem.Str.ofString "number", .local)], isGenerator := false, isCoroutine := false, more := [] }
theorem init_line_number {K : Frag} {C fI : Addr} {B newId initId qn : String} {bmB : List Value} (T : ErC K C B newId initId bmB) (no0 : findIn K (.ref C) "line" = some none) (no1 : findIn K (.ref C) "number" = some none)
    (fn : ∃ (oc : Value) (od : Option Addr) (doc pm : Value) (an : Option Addr) (cdv ct : Value) (osl : Array (Option Value)) (p1 p2 p3 q00 q01 q02 q03 q10 q11 q12 q13 : Pos),
      K.lookup fI = some ⟨oc, od, .func (fnOf "__init__" (Str.ofString qn) (iA_line_number p1 p2 p3) (iB_line_number q00 q01 q02 q03 q10 q11 q12 q13) iS_line_number .none .none doc pm an cdv ct), osl⟩ ∧ codeIn K cdv (Str.ofString qn) = true) : InitDoes K C fI [("line" : Str), ("number" : Str)] := by
  intro prog w A R s x t0 vs hl X hlim hx hnx hroom hq
  obtain ⟨v0, v1, rfl⟩ : ∃ v0 v1, vs = [v0, v1] := by
    match vs, hl with
    | [v0, v1], _ => exact ⟨v0, v1, rfl⟩
  obtain ⟨oc, od, doc, pm, an, cdv, ct, osl, p1, p2, p3, q00, q01, q02, q03, q10, q11, q12, q13, ho, hcd⟩ := fn
  obtain ⟨cd, hcl, hpass, hne, hob, hdict⟩ := T.data
  refine Att.call_fn (binds := [("self", .ref x), ("line", v0), ("number", v1)]) X hlim ho hcd hroom (BindsTo.of_eq (by first | rfl | with_unfolding_all rfl)) (by first | rfl | decide | with_unfolding_all rfl) (fun s₁ IC => ?_) rfl rfl rfl
  obtain ⟨h₁, tk₁, rfl⟩ := IC.toInCall.same
  have kA : ∀ b o, s.heap.get? b = some o → h₁.get? b = some o := IC.toInCall.keep
  have nsL := IC.toInCall.ns
  have neL : s.heap.objs.size ≠ x := Nat.ne_of_gt (Heap.lt_size hx)
  have inA : K.In h₁ := X.keeps kA
  have atA := kA _ _ hx
  have big : s.heap.objs.size < h₁.objs.size := nsL.lt
  show wpAny _ _ (execs _ _) _ _ _
  refine wpAny_execs_cons (plainObj_wpAny_Assign_Attribute ?_)
  refine NmX.ldC (v := v0) nsL (by first | rfl | with_unfolding_all rfl | kernel_rfl) (NmX.ldC (v := .ref x) nsL (by first | rfl | with_unfolding_all rfl | kernel_rfl) ?_)
  refine set_plain inA (ox := excO C t0) (od := none) ⟨atA, rfl, rfl, trivial⟩ T.sa ?_
  refine osa_first inA atA hcl hpass hne hob hdict no0 (fun hB tkB dx kB dn dne atB nsB => ?_)
  show wpAny _ _ (execs _ _) _ _ _
  have nsL2 : hB.Ns s.heap.objs.size _ := nsL.at fun o e => kB _ o neL e
  have notK : ∀ b o, K.lookup b = some o → hB.get? b = some o := fun b o e => kB b o (fun z => by rw [z, hnx] at e; cases e) (inA b o e)
  refine wpAny_execs_cons (plainObj_wpAny_Assign_Attribute ?_)
  refine NmX.ldC (v := v1) nsL2 (by first | rfl | with_unfolding_all rfl | kernel_rfl) (NmX.ldC (v := .ref x) nsL2 (by first | rfl | with_unfolding_all rfl | kernel_rfl) ?_)
  have inB : K.In hB := notK
  obtain ⟨oD, _, _, hoD, _, _⟩ := nsB.count within1
  refine set_plain inB (ox := { cls := .ref C, dict := some dx, data := .fields #[.ref t0, .none, .none, .none, .bool false, .none] }) (od := some oD) ⟨atB, rfl, rfl, hoD⟩ T.sa ?_
  refine osa_next inB atB nsB within1 (Nat.le_of_ble_eq_true rfl) hcl hpass hne hob hdict no1 (fun hE tkE kE nsE => ?_)
  show wpAny _ _ (execs _ _) _ _ _
  have ndx : ∀ b o, s.heap.get? b = some o → b ≠ dx := fun b o e z => by
    have z1 := Heap.lt_size e
    have z2 : h₁.objs.size ≤ dx := dn
    rw [z] at z1
    exact absurd (Nat.lt_of_lt_of_le (Nat.lt_trans z1 big) z2) (Nat.lt_irrefl _)
  exact wpAny_execs_nil (hq hE tkE dx ⟨fun b o hb e => kE b o (ndx b o e) (kB b o hb (kA b o e)), kE _ _ (Ne.symm dne) atB, Nat.le_of_lt (Nat.lt_of_lt_of_le big dn), dne, nsE⟩)
def iA_pair_numbers (p1 p2 p3 : Pos) : Arguments := { posonlyargs := [], args := [{ arg := "self", annotation := none, pos := p1 }, { arg := "pair", annotation := none, pos := p2 }, { arg := "numbers", annotation := none, pos := p3 }], vararg := none, kwonlyargs := [], kw_defaults := [], kwarg := none, defaults := [] }
def iB_pair_numbers (q00 q01 q02 q03 q10 q11 q12 q13 : Pos) : List Stmt := [.Assign [.Attribute (.Name "self" q00) "pair" q01] (.Name "pair" q02) q03, .Assign [.Attribute (.Name "self" q10) "numbers" q11] (.Name "numbers" q12) q13]
def iS_pair_numbers : Scope := { kind := .function, names := [(PySem.Str.ofString "self", .local), (PySem.Str.ofString "pair", .local), (PySem.Str.ofString "numbers", .local)], isGenerator := false, isCoroutine := false, more := [] }
theorem init_pair_numbers {K : Frag} {C fI : Addr} {B newId initId qn : String} {bmB : List Value} (T : ErC K C B newId initId bmB) (no0 : findIn K (.ref C) "pair" = some none) (no1 : findIn K (.ref C) "numbers" = some none)
    (fn : ∃ (oc : Value) (od : Option Addr) (doc pm : Value) (an : Option Addr) (cdv ct : Value) (osl : Array (Option Value)) (p1 p2 p3 q00 q01 q02 q03 q10 q11 q12 q13 : Pos),
      K.lookup fI = some ⟨oc, od, .func (fnOf "__init__" (Str.ofString qn) (iA_pair_numbers p1 p2 p3) (iB_pair_numbers q00 q01 q02 q03 q10 q11 q12 q13) iS_pair_numbers .none .none doc pm an cdv ct), osl⟩ ∧ codeIn K cdv (Str.ofString qn) = true) : InitDoes K C fI [("pair" : Str), ("numbers" : Str)] := by
  intro prog w A R s x t0 vs hl X hlim hx hnx hroom hq
  obtain ⟨v0, v1, rfl⟩ : ∃ v0 v1, vs = [v0, v1] := by
    match vs, hl with
    | [v0, v1], _ => exact ⟨v0, v1, rfl⟩
  obtain ⟨oc, od, doc, pm, an, cdv, ct, osl, p1, p2, p3, q00, q01, q02, q03, q10, q11, q12, q13, ho, hcd⟩ := fn
  obtain ⟨cd, hcl, hpass, hne, hob, hdict⟩ := T.data
  refine Att.call_fn (binds := [("self", .ref x), ("pair", v0), ("numbers", v1)]) X hlim ho hcd hroom (BindsTo.of_eq (by first | rfl | with_unfolding_all rfl)) (by first | rfl | decide | with_unfolding_all rfl) (fun s₁ IC => ?_) rfl rfl rfl
  obtain ⟨h₁, tk₁, rfl⟩ := IC.toInCall.same
  have kA : ∀ b o, s.heap.get? b = some o → h₁.get? b = some o := IC.toInCall.keep
  have nsL := IC.toInCall.ns
  have neL : s.heap.objs.size ≠ x := Nat.ne_of_gt (Heap.lt_size hx)
  have inA : K.In h₁ := X.keeps kA
  have atA := kA _ _ hx
  have big : s.heap.objs.size < h₁.objs.size := nsL.lt
  show wpAny _ _ (execs _ _) _ _ _
  refine wpAny_execs_cons (plainObj_wpAny_Assign_Attribute ?_)
  refine NmX.ldC (v := v0) nsL (by first | rfl | with_unfolding_all rfl | kernel_rfl) (NmX.ldC (v := .ref x) nsL (by first | rfl | with_unfolding_all rfl | kernel_rfl) ?_)
  refine set_plain inA (ox := excO C t0) (od := none) ⟨atA, rfl, rfl, trivial⟩ T.sa ?_
  refine osa_first inA atA hcl hpass hne hob hdict no0 (fun hB tkB dx kB dn dne atB nsB => ?_)
  show wpAny _ _ (execs _ _) _ _ _
  have nsL2 : hB.Ns s.heap.objs.size _ := nsL.at fun o e => kB _ o neL e
  have notK : ∀ b o, K.lookup b = some o → hB.get? b = some o := fun b o e => kB b o (fun z => by rw [z, hnx] at e; cases e) (inA b o e)
  refine wpAny_execs_cons (plainObj_wpAny_Assign_Attribute ?_)
  refine NmX.ldC (v := v1) nsL2 (by first | rfl | with_unfolding_all rfl | kernel_rfl) (NmX.ldC (v := .ref x) nsL2 (by first | rfl | with_unfolding_all rfl | kernel_rfl) ?_)
  have inB : K.In hB := notK
  obtain ⟨oD, _, _, hoD, _, _⟩ := nsB.count within1
  refine set_plain inB (ox := { cls := .ref C, dict := some dx, data := .fields #[.ref t0, .none, .none, .none, .bool false, .none] }) (od := some oD) ⟨atB, rfl, rfl, hoD⟩ T.sa ?_
  refine osa_next inB atB nsB within1 (Nat.le_of_ble_eq_true rfl) hcl hpass hne hob hdict no1 (fun hE tkE kE nsE => ?_)
  show wpAny _ _ (execs _ _) _ _ _
  have ndx : ∀ b o, s.heap.get? b = some o → b ≠ dx := fun b o e z => by
    have z1 := Heap.lt_size e
    have z2 : h₁.objs.size ≤ dx := dn
    rw [z] at z1
    exact absurd (Nat.lt_of_lt_of_le (Nat.lt_trans z1 big) z2) (Nat.lt_irrefl _)
  exact wpAny_execs_nil (hq hE tkE dx ⟨fun b o hb e => kE b o (ndx b o e) (kB b o hb (kA b o e)), kE _ _ (Ne.symm dne) atB, Nat.le_of_lt (Nat.lt_of_lt_of_le big dn), dne, nsE⟩)
def iA_one_other (p1 p2 p3 : Pos) : Arguments := { posonlyargs := [], args := [{ arg := "self", annotation := none, pos := p1 }, { arg := "one", annotation := none, pos := p2 }, { arg := "other", annotation := none, pos := p3 }], vararg := none, kwonlyargs := [], kw_defaults := [], kwarg := none, defaults := [] }
def iB_one_other (q00 q01 q02 q03 q10 q11 q12 q13 : Pos) : List Stmt := [.Assign [.Attribute (.Name "self" q00) "one" q01] (.Name "one" q02) q03, .Assign [.Attribute (.Name "self" q10) "other" q11] (.Name "other" q12) q13]
def iS_one_other : Scope := { kind := .function, names := [(PySem.Str.ofString "self", .local), (PySem.Str.ofString "one", .local), (PySem.Str.ofString "other", .local)], isGenerator := false, isCoroutine := false, more := [] }
theorem init_one_other {K : Frag} {C fI : Addr} {B newId initId qn : String} {bmB : List Value} (T : ErC K C B newId initId bmB) (no0 : findIn K (.ref C) "one" = some none) (no1 : findIn K (.ref C) "other" = some none)
    (fn : ∃ (oc : Value) (od : Option Addr) (doc pm : Value) (an : Option Addr) (cdv ct : Value) (osl : Array (Option Value)) (p1 p2 p3 q00 q01 q02 q03 q10 q11 q12 q13 : Pos),
      K.lookup fI = some ⟨oc, od, .func (fnOf "__init__" (Str.ofString qn) (iA_one_other p1 p2 p3) (iB_one_other q00 q01 q02 q03 q10 q11 q12 q13) iS_one_other .none .none doc pm an cdv ct), osl⟩ ∧ codeIn K cdv (Str.ofString qn) = true) : InitDoes K C fI [("one" : Str), ("other" : Str)] := by
  intro prog w A R s x t0 vs hl X hlim hx hnx hroom hq
  obtain ⟨v0, v1, rfl⟩ : ∃ v0 v1, vs = [v0, v1] := by
    match vs, hl with
    | [v0, v1], _ => exact ⟨v0, v1, rfl⟩
  obtain ⟨oc, od, doc, pm, an, cdv, ct, osl, p1, p2, p3, q00, q01, q02, q03, q10, q11, q12, q13, ho, hcd⟩ := fn
  obtain ⟨cd, hcl, hpass, hne, hob, hdict⟩ := T.data
  refine Att.call_fn (binds := [("self", .ref x), ("one", v0), ("other", v1)]) X hlim ho hcd hroom (BindsTo.of_eq (by first | rfl | with_unfolding_all rfl)) (by first | rfl | decide | with_unfolding_all rfl) (fun s₁ IC => ?_) rfl rfl rfl
  obtain ⟨h₁, tk₁, rfl⟩ := IC.toInCall.same
  have kA : ∀ b o, s.heap.get? b = some o → h₁.get? b = some o := IC.toInCall.keep
  have nsL := IC.toInCall.ns
  have neL : s.heap.objs.size ≠ x := Nat.ne_of_gt (Heap.lt_size hx)
  have inA : K.In h₁ := X.keeps kA
  have atA := kA _ _ hx
  have big : s.heap.objs.size < h₁.objs.size := nsL.lt
  show wpAny _ _ (execs _ _) _ _ _
  refine wpAny_execs_cons (plainObj_wpAny_Assign_Attribute ?_)
  refine NmX.ldC (v := v0) nsL (by first | rfl | with_unfolding_all rfl | kernel_rfl) (NmX.ldC (v := .ref x) nsL (by first | rfl | with_unfolding_all rfl | kernel_rfl) ?_)
  refine set_plain inA (ox := excO C t0) (od := none) ⟨atA, rfl, rfl, trivial⟩ T.sa ?_
  refine osa_first inA atA hcl hpass hne hob hdict no0 (fun hB tkB dx kB dn dne atB nsB => ?_)
  show wpAny _ _ (execs _ _) _ _ _
  have nsL2 : hB.Ns s.heap.objs.size _ := nsL.at fun o e => kB _ o neL e
  have notK : ∀ b o, K.lookup b = some o → hB.get? b = some o := fun b o e => kB b o (fun z => by rw [z, hnx] at e; cases e) (inA b o e)
  refine wpAny_execs_cons (plainObj_wpAny_Assign_Attribute ?_)
  refine NmX.ldC (v := v1) nsL2 (by first | rfl | with_unfolding_all rfl | kernel_rfl) (NmX.ldC (v := .ref x) nsL2 (by first | rfl | with_unfolding_all rfl | kernel_rfl) ?_)
  have inB : K.In hB := notK
  obtain ⟨oD, _, _, hoD, _, _⟩ := nsB.count within1
  refine set_plain inB (ox := { cls := .ref C, dict := some dx, data := .fields #[.ref t0, .none, .none, .none, .bool false, .none] }) (od := some oD) ⟨atB, rfl, rfl, hoD⟩ T.sa ?_
  refine osa_next inB atB nsB within1 (Nat.le_of_ble_eq_true rfl) hcl hpass hne hob hdict no1 (fun hE tkE kE nsE => ?_)
  show wpAny _ _ (execs _ _) _ _ _
  have ndx : ∀ b o, s.heap.get? b = some o → b ≠ dx := fun b o e z => by
    have z1 := Heap.lt_size e
    have z2 : h₁.objs.size ≤ dx := dn
    rw [z] at z1
    exact absurd (Nat.lt_of_lt_of_le (Nat.lt_trans z1 big) z2) (Nat.lt_irrefl _)
  exact wpAny_execs_nil (hq hE tkE dx ⟨fun b o hb e => kE b o (ndx b o e) (kB b o hb (kA b o e)), kE _ _ (Ne.symm dne) atB, Nat.le_of_lt (Nat.lt_of_lt_of_le big dn), dne, nsE⟩)
theorem er_made {prog : Program} {w : World} {A : Around} {R : Result → Shared → Prop} {s : Shared} {K : Frag} {C fI : Addr} {B newId initId : String} {bmB : List Value} {fs : List Str} (T : ErC K C B newId initId bmB) (D : InitDoes K C fI fs) (iC : findIn K (.ref C) "__init__" = some (some (.ref fI))) (tI : typeIn K (.ref fI) = some (.type "function"))
    {vs : List Value} (hl : vs.length = fs.length) (few : vs.length ≤ sizeLine) (X : K.In s.heap) (hlim : s.heap.NoLimit) (hroom : A.depth + 1 < recursionLimit)
    (hq : ∀ h' tk e d t0, (∀ b o, s.heap.get? b = some o → h'.get? b = some o) → s.heap.objs.size ≤ e → s.heap.objs.size ≤ d → d ≠ e → h'.get? e = some { cls := .ref C, dict := some d, data := .fields #[.ref t0, .none, .none, .none, .bool false, .none] } → h'.Ns1 d (mapOf fs vs) → R (.ok (.ret (.ref e))) { s with heap := h', toks := tk }) :
    codeAny (model prog w) A (.call (.ref C) ⟨vs, []⟩) R s := by
  obtain ⟨nm, q, N, bs, bm, sn, sub, ab, col, dd, k0, k1, k2, k3, k5, hC, _, _, hT⟩ := T.cls
  obtain ⟨hp, g, dr, tk, os⟩ := s
  have kA : ∀ b o, hp.get? b = some o → ((hp.push (kdv_tup vs)).push (excO C hp.objs.size)).get? b = some o := fun b o e => Heap.get?_push_of_some _ (Heap.get?_push_of_some _ e)
  have atN : ((hp.push (kdv_tup vs)).push (excO C hp.objs.size)).get? (hp.objs.size + 1) = some (excO C hp.objs.size) := by heap_get
  have notIn : K.lookup (hp.objs.size + 1) = none := by
    cases e : K.lookup (hp.objs.size + 1) with
    | none => rfl
    | some o =>
      have z : hp.get? (hp.objs.size + 1) = some o := X _ _ e
      exact absurd (Nat.lt_of_succ_lt (Heap.lt_size z)) (Nat.lt_irrefl _)
  refine call_own T.fb hT (X _ _ hC) (looks_findIn X iC) (fun self => bind_fn X self tI) few ?_
  refine D (s := ⟨(hp.push (kdv_tup vs)).push (excO C hp.objs.size), g, dr, tk, os⟩) hl (X.keeps kA) (hlim.keeps kA) atN notIn ?_ fun h' tk' dx ⟨kB, hx, dn, dne, nsB⟩ => ?_
  · show A.depth + 1 < recursionLimit
    exact hroom
  · have old : ∀ b o, hp.get? b = some o → h'.get? b = some o := fun b o e => kB b o (Nat.ne_of_lt (Nat.lt_succ_of_lt (Heap.lt_size e))) (kA b o e)
    have big : hp.objs.size + 1 + 1 ≤ dx := by
      first
        | (simpa only [Heap.size_push] using dn)
        | exact dn
        | (have q := dn; rw [Heap.size_push, Heap.size_push] at q; exact q)
    exact ⟨rfl, hq h' tk' (hp.objs.size + 1) dx _ old (Nat.le_succ _) (Nat.le_trans (Nat.le_trans (Nat.le_succ _) (Nat.le_succ _)) big) dne hx nsB⟩
theorem pass_VE {C T : Addr} (self : Value) : refuseLoop self "__setattr__" [.ref C, .ref T, .type "ValueError", .type "Exception", .type "BaseException", .type "object"] = pure () := by
  rw [refuseLoop_ref, refuseLoop_ref]
  exact PySem.F.store_ValueError.passes self
theorem pass_LE {C : Addr} (self : Value) : refuseLoop self "__setattr__" [.ref C, .type "LookupError", .type "Exception", .type "BaseException", .type "object"] = pure () := by
  rw [refuseLoop_ref]
  exact PySem.F.store_LookupError.passes self
end ErV
end PySem
namespace VK
open PySem PySem.Spec PyProof.Rows L2
/-- fields as the abstract heap has them -/
def fldV : List Str → List V → List (Str × V)
  | [f], [v] => [(f, v)]
  | [f, e], [v, u] => [(e, u), (f, v)]
  | _, _ => []
theorem fld_rel : ∀ {fs : List Str} {vs : List V} {us : List Value}, fs.length = 1 ∨ fs.length = 2 → vs.length = fs.length → Vals vs us → ∀ g, RelO ((fldV fs vs).lookup g) (PySem.ErV.mapOf fs us g) := by
  intro fs vs us h hl r
  match fs, vs, us, h, hl, r with
  | [f], [v], [u], _, _, .cons r1 .nil => exact relO_put (fs := []) r1 fun g => True.intro
  | [f, e], [v, v2], [u, u2], _, _, .cons r1 (.cons r2 .nil) => exact relO_put r2 (relO_put (fs := []) r1 fun g => True.intro)
  | [], _, _, h, _, _ => simp at h
  | _ :: _ :: _ :: _, _, _, h, _, _ => simp at h
/-- an own error with fields at a -/
def ErAt (H : Hp) (a C : Addr) (fs : List (Str × V)) : Prop := ∃ d, H a = some (exo a C (some d)) ∧ H d = some (.xd fs)
/-- one without -/
def Er0 (H : Hp) (a C : Addr) : Prop := H a = some (ExO (.ref C) a)
theorem ErAt.same {H H' : Hp} {a C : Addr} {fs : List (Str × V)} (h : ErAt H a C fs) (s : Same H H') : ErAt H' a C fs := by
  obtain ⟨d, h1, h2⟩ := h
  exact ⟨d, s _ _ h1, s _ _ h2⟩
theorem Er0.same {H H' : Hp} {a C : Addr} (h : Er0 H a C) (s : Same H H') : Er0 H' a C := s _ _ h
structure ErMk (K : PySem.W.Frag) (mg : Str → Option Value) (x : Str) (C : Addr) (fs : List Str) : Prop where
  ex : ∃ (B newId initId : String) (bmB : List Value) (fI : Addr), PySem.ErV.ErC K C B newId initId bmB ∧ PySem.ErV.InitDoes K C fI fs ∧ PySem.W.findIn K (.ref C) "__init__" = some (some (.ref fI)) ∧ PySem.W.typeIn K (.ref fI) = some (.type "function")
  at_ : mg x = some (.ref C)
  few : fs.length = 1 ∨ fs.length = 2
def tMkE (C : Addr) (fs : List Str) (ta : TA) : TE := fun σ H Q => ta σ H fun vs H1 => vs.length = fs.length ∧ ∀ e H', Same H1 H' → H1 e = none → ErAt H' e C (fldV fs vs) → Q (.ref e) H'
theorem pe_mkE {X : Cx} {x : Str} {C : Addr} {fs : List Str} {e : Expr} {es : List Expr} {ta : TA} {p pos : Pos} {k : Nat} (M : ErMk X.K X.mg x C fs) (room : Room (k + 1) X.A) (ha : PA X (e :: es) ta) (hg : Gl X x)
    (hdb : (x == ("__debug__" : Str)) = false := by decide) (he : starEach (e :: es) X.env = (false, eval e X.env) :: starEach es X.env := by rfl) (hpl : (backTo pos (starEach es X.env)).any (·.1) = false := by rfl) :
    PE X (.Call (.Name x p) (e :: es) [] pos) (tMkE C fs ta) := by
  obtain ⟨B, newId, initId, bmB, fI, T, D, iC, tI⟩ := M.ex
  constructor
  intro pins s σ H Q I h
  refine wpAny_Call_Name_kw (ld_glob I hg M.at_ ?_ hdb)
  refine PySem.W.callWith_K (h₀ := X.base) I.ok.mod.kin T.kC (thn (ha.run pos pins s σ H _ I h) ?_) he hpl
  intro us s1 ⟨vs, H1, I1, r1, hl, q1⟩
  refine ⟨I1.kIn, ?_⟩
  have hlu : us.length = fs.length := r1.length.symm.trans hl
  have hlim := I1.nolimit
  obtain ⟨hp, g, dr, tk, os⟩ := s1
  refine wpAny_call (PySem.ErV.er_made (vs := us) T D iC tI hlu (by rw [hlu, sizeLine_eq]; rcases M.few with z | z <;> rw [z] <;> decide) I1.kIn hlim (by have := room.dp; omega) fun h' tk' e d t0 old new dbig dne atE nsD => ?_)
  obtain ⟨G, g1, g2⟩ := restrict h' fun b => decide (b ≠ e)
  have gk : ∀ b, b ≠ e → G.get? b = h'.get? b := fun b hb => g1 b (decide_eq_true hb)
  have ge : G.get? e = none := g2 e (by simp)
  have oldG : ∀ b o, hp.get? b = some o → G.get? b = some o := fun b o z => (gk b (Nat.ne_of_lt (Nat.lt_of_lt_of_le (Heap.lt_size z) new))).trans (old b o z)
  have hd0 : H1 d = none := I1.hok.fresh dbig
  have he0 : H1 e = none := I1.hok.fresh new
  have okD : ObjOk X.prog X.w (upd H1 d (.xd (fldV fs vs))) G d (.xd (fldV fs vs)) := ⟨_, nsD.at (fun o z => (gk d dne).trans z), fld_rel M.few hl r1⟩
  have J : Inv X pins σ (upd H1 d (.xd (fldV fs vs))) ⟨G, g, dr, tk', os⟩ := I1.laid (t' := tk') oldG dbig okD
  have he1 : (upd H1 d (.xd (fldV fs vs))) e = none := by rw [upd_ne (Ne.symm dne)]; exact he0
  have J2 : Inv X pins σ (upd (upd H1 d (.xd (fldV fs vs))) e (exo e C (some d))) ⟨h', g, dr, tk', os⟩ :=
    J.laidN (t' := tk') (fun b o z => by
      by_cases hb : b = e
      · have z' : G.get? b = some o := z
        rw [hb, ge] at z'
        cases z'
      · exact (gk b hb).symm.trans z) ge he1 (exo_ok atE)
  refine ⟨.ref e, _, J2, rfl, q1 e _ ((same_new hd0).trans (same_new he1)) he0 ⟨d, upd_same, ?_⟩⟩
  rw [upd_ne dne, upd_same]
structure ErMk0 (K : PySem.W.Frag) (mg : Str → Option Value) (x : Str) (C : Addr) : Prop where
  ex : ∃ (B newId initId : String) (bmB : List Value), ExcBaseFacts B newId initId bmB ∧ PySem.W.excIn K C bmB newId = true ∧ PySem.W.keepIn K (.ref C) = true
  at_ : mg x = some (.ref C)
def tMkE0 (C : Addr) : TE := fun σ H Q => ∀ e H', Same H H' → H e = none → Er0 H' e C → Q (.ref e) H'
theorem pe_mkE0 {X : Cx} {x : Str} {C : Addr} {p pos : Pos} (M : ErMk0 X.K X.mg x C) (hg : Gl X x) (hdb : (x == ("__debug__" : Str)) = false := by decide) : PE X (.Call (.Name x p) [] [] pos) (tMkE0 C) := by
  obtain ⟨B, newId, initId, bmB, F, q, kC⟩ := M.ex
  constructor
  intro pins s σ H Q I h
  refine wpAny_Call_Name_kw (ld_glob I hg M.at_ ?_ hdb)
  refine PySem.W.callWith_K0 I.kIn kC ?_
  obtain ⟨bm, N, nm, qn, bs, hdct, sn, sub, ab, col, dd, k0, k1, k2, k3, k5, mN, hC, hN, hni, T⟩ := exc_obj I.kIn q
  refine wpAny_call_exc_subT F T hC hN hni (fun h' a hm => ?_) (by show 0 ≤ sizeLine; exact Nat.zero_le _)
  have hn : H a = none := I.hok.gone hm.new
  obtain ⟨t, ht, _, _⟩ := hm.there
  exact ⟨.ref a, upd H a (ExO (.ref C) a), I.laidN hm.keeps hm.new hn (exO_ok ht ⟨rfl, rfl⟩ rfl rfl rfl (show 4 < 6 by decide)), rfl, h a _ (same_new hn) hn upd_same⟩
/-- a field read -/
structure ErF (K : PySem.W.Frag) (C : Addr) : Prop where
  ga : PySem.W.findIn K (.ref C) "__getattribute__" = some (some (.builtin "BaseException.__getattribute__"))
  gg : PySem.W.findIn K (.ref C) "__getattr__" = some none
  exC : PySem.W.subIn K (.ref C) (.type "BaseException") = some true
  hdC : PySem.W.hasDictIn K C = true
def tFldE (K : PySem.W.Frag) (n : Str) (te : TE) : TE := fun σ H Q => te σ H fun x H1 => ∃ (a C : Addr) (fs : List (Str × V)) (v : V), x = .ref a ∧ ErAt H1 a C fs ∧ fs.lookup n = some v ∧ ErF K C ∧ PySem.W.findIn K (.ref C) n = some none ∧ Q v H1
theorem pe_fldE {X : Cx} {n : Str} {e : Expr} {te : TE} {pos : Pos} (he : PE X e te) (hb : attributeBase e n X.env (eval e X.env) = eval e X.env := by rfl) : PE X (.Attribute e n pos) (tFldE X.K n te) := by
  constructor
  intro pins s σ H Q I h
  refine attr_of hb (thn (he.run pins s σ H _ I h) fun u s1 hh => ?_)
  obtain ⟨x, H1, J, rx, a, C, fs, v, ex, ⟨d, ea, ed⟩, l, T, no, q⟩ := hh
  subst ex
  obtain rfl : u = Value.ref a := rx
  obtain ⟨t1, ho⟩ := exo_at J.hok ea
  obtain ⟨mA, hns, hr⟩ := J.hok d _ ed
  obtain ⟨od, ho2, hl⟩ := lookIn_ns hns
  obtain ⟨u, hu, ru⟩ := RelO.some_of (v := v) (o := mA n) (by rw [← l]; exact hr n)
  have inst : PySem.W.InstAt s1.heap a _ C (some od) := ⟨ho, rfl, rfl, ho2⟩
  exact HandSPX.exc_get J.kIn inst T.ga T.gg T.exC (PySem.W.findObj_own T.hdC no rfl (by rw [hl, hu])) (handed_of ru) ⟨v, H1, J.tok _, ru, q⟩
/-- isinstance of an own error that is held as a value -/
def rIsV (K : PySem.W.Frag) : List V → Hp → VK → Prop := fun xs H Q => ∃ (a C : Addr) (c : V) (cv : Value) (b : Bool), xs = [.ref a, c] ∧ ((∃ fs, ErAt H a C fs) ∨ Er0 H a C) ∧ ExcD K C ∧ (∀ u, L2.RelV c u → u = cv) ∧ PySem.W.kitOne K (.ref C) cv = some b ∧ Q (.bl b) H
theorem call_isV {X : Cx} : CallR X (.builtin "isinstance") (rIsV X.K) := by
  intro pins s σ H xs us Q I r h
  obtain ⟨a, C, c, cv, b, rfl, hat, E, hcv, e, q⟩ := h
  cases r with
  | cons rx rr =>
    cases rr with
    | cons rt rr =>
      cases rr
      cases rx
      have ec := hcv _ rt
      subst ec
      rcases hat with ⟨fs, d, ea, ed⟩ | ea
      · obtain ⟨t1, ho⟩ := exo_at I.hok ea
        obtain ⟨mA, hns, _⟩ := I.hok d _ ed
        obtain ⟨od, ho2, _⟩ := lookIn_ns hns
        have inst : PySem.W.InstAt s.heap a _ C (some od) := ⟨ho, rfl, rfl, ho2⟩
        exact PySem.W.kia_one (PySem.W.kitx_exc E.hc E.hg E.hk E.hs E.ha E.hn E.ht E.hm) I.kIn inst e (fun z => nomatch z) fun tk => ⟨.bl b, H, I.kept (t' := tk) fun _ _ z => z, rfl, q⟩
      · obtain ⟨⟨oe, vs, ho, hz, hd, _⟩, _, _⟩ := I.hok a _ ea
        have inst : PySem.W.InstAt s.heap a oe C none := by
          obtain ⟨oc, od, oda, osl⟩ := oe
          obtain ⟨h1, h2⟩ := hz
          dsimp only at h1 h2 hd
          subst h1 h2 hd
          exact ⟨ho, rfl, rfl, trivial⟩
        exact PySem.W.kia_one (PySem.W.kitx_exc E.hc E.hg E.hk E.hs E.ha E.hn E.ht E.hm) I.kIn inst e (fun z => nomatch z) fun tk => ⟨.bl b, H, I.kept (t' := tk) fun _ _ z => z, rfl, q⟩
end VK
namespace PySem
namespace ErV
end ErV
end PySem

/-! VKit7: a deck that is a dict; data that are one thing; a list apart from what stands in it; enumerate -/
namespace VK
open PySem PySem.Spec PyProof.Rows L2
/-! ### data are told by the heap -/
mutual
theorem Da.det {H : Hp} : ∀ {v : V} {d d' : PyData}, Da H v d → Da H v d' → d = d'
  | _, _, _, .non, h => by cases h; rfl
  | _, _, _, .bl b, h => by cases h; rfl
  | _, _, _, .int i, h => by cases h; rfl
  | _, _, _, .str x, h => by cases h; rfl
  | _, _, _, .lst e r, h => by
    cases h with
    | lst e' r' =>
      rw [e] at e'
      cases e'
      rw [DaAll.det r r']
    | tup e' r' => rw [e] at e'; cases e'
    | dic e' r' => rw [e] at e'; cases e'
  | _, _, _, .tup e r, h => by
    cases h with
    | lst e' r' => rw [e] at e'; cases e'
    | tup e' r' =>
      rw [e] at e'
      cases e'
      rw [DaAll.det r r']
    | dic e' r' => rw [e] at e'; cases e'
  | _, _, _, .dic e r, h => by
    cases h with
    | lst e' r' => rw [e] at e'; cases e'
    | tup e' r' => rw [e] at e'; cases e'
    | dic e' r' =>
      rw [e] at e'
      cases e'
      rw [DaAll.det r r']
theorem DaAll.det {H : Hp} : ∀ {vs : List V} {ds ds' : List PyData}, DaAll H vs ds → DaAll H vs ds' → ds = ds'
  | _, _, _, .nil, h => by cases h; rfl
  | _, _, _, .cons a r, h => by
    cases h with
    | cons a' r' => rw [Da.det a a', DaAll.det r r']
end
theorem zip_big : ∀ {ks ds : List PyData} {d : PyData}, ks.length = ds.length → d ∈ ds → sizeOf d < sizeOf (ks.zip ds)
  | [], [], _, _, h => by cases h
  | k :: ks, e :: ds, d, hl, h => by
    show sizeOf d < sizeOf ((k, e) :: ks.zip ds)
    rcases List.mem_cons.mp h with z | z
    · subst z
      simp only [List.cons.sizeOf_spec, Prod.mk.sizeOf_spec]
      omega
    · have := zip_big (Nat.succ.inj hl) z
      simp only [List.cons.sizeOf_spec]
      omega
  | [], _ :: _, _, hl, _ => by cases hl
  | _ :: _, [], _, hl, _ => by cases hl
mutual
theorem Da.away {H : Hp} {p : Addr} : ∀ {v : V} {d : PyData}, Da H v d → (∀ e, Da H (.ref p) e → sizeOf d < sizeOf e) → Da (off p H) v d
  | _, _, .non, _ => .non
  | _, _, .bl b, _ => .bl b
  | _, _, .int i, _ => .int i
  | _, _, .str x, _ => .str x
  | _, _, .lst (a := a) (ds := ds) e r, h => by
    refine .lst (off_put (fun z => ?_) e) (DaAll.away r fun u hu d hd => ?_)
    · subst z
      exact absurd (h _ (.lst e r)) (Nat.lt_irrefl _)
    · have h1 := h u hu
      have h2 := List.sizeOf_lt_of_mem hd
      simp only [PyData.list.sizeOf_spec] at h1
      omega
  | _, _, .tup (a := a) (ds := ds) e r, h => by
    refine .tup (off_put (fun z => ?_) e) (DaAll.away r fun u hu d hd => ?_)
    · subst z
      exact absurd (h _ (.tup e r)) (Nat.lt_irrefl _)
    · have h1 := h u hu
      have h2 := List.sizeOf_lt_of_mem hd
      simp only [PyData.tuple.sizeOf_spec] at h1
      omega
  | _, _, .dic (a := a) (kvs := kvs) (ds := ds) e r, h => by
    refine .dic (off_put (fun z => ?_) e) (DaAll.away r fun u hu d hd => ?_)
    · subst z
      exact absurd (h _ (.dic e r)) (Nat.lt_irrefl _)
    · have h1 := h u hu
      have hl : (kvs.map (fun p => keyD p.1)).length = ds.length := by rw [List.length_map, ← r.length, List.length_map]
      have h2 := zip_big hl hd
      simp only [PyData.dict.sizeOf_spec] at h1
      omega
theorem DaAll.away {H : Hp} {p : Addr} : ∀ {vs : List V} {ds : List PyData}, DaAll H vs ds → (∀ e, Da H (.ref p) e → ∀ d ∈ ds, sizeOf d < sizeOf e) → DaAll (off p H) vs ds
  | _, _, .nil, _ => .nil
  | _, _, .cons a r, h => .cons (Da.away a fun e he => h e he _ List.mem_cons_self) (DaAll.away r fun e he d hd => h e he d (List.mem_cons_of_mem _ hd))
end
/-- what stands in a list is apart from it -/
theorem items_away {H : Hp} {p : Addr} {xs : List V} {ds : List PyData} (e : H p = some (.lst xs)) (r : DaAll H xs ds) : DaAll (off p H) xs ds := by
  refine DaAll.away r fun u hu d hd => ?_
  have eu := Da.det hu (.lst e r)
  subst eu
  have h2 := List.sizeOf_lt_of_mem hd
  simp only [PyData.list.sizeOf_spec]
  omega
theorem off_upd {H : Hp} {p : Addr} {o : HO} : Same (off p H) (upd H p o) := fun a u h => by
  rw [upd_ne (off_get h).1]
  exact (off_get h).2
/-! ### the deck -/
def ckey (x : String) : Key := .inr (Str.ofString x)
def DeckAt (b : Addr) (k : Nat) (H : Hp) : Prop := ∃ (c : Addr) (cs : List Int) (t g : Int), H b = some (.dK [(ckey "cells", .ref c), (ckey "turn", .int t), (ckey "great", .int g)]) ∧ off b H c = some (.lst (cs.map V.int)) ∧ cs ≠ [] ∧ cs.length ≤ 64 ∧ 0 ≤ t ∧ t ≤ k ∧ 0 ≤ g
def dk3 (c t g : V) : List (Key × V) := [(ckey "cells", c), (ckey "turn", t), (ckey "great", g)]
theorem ck_ct : ckey "cells" ≠ ckey "turn" := by decide +kernel
theorem ck_cg : ckey "cells" ≠ ckey "great" := by decide +kernel
theorem ck_tg : ckey "turn" ≠ ckey "great" := by decide +kernel
theorem dk3_c {c t g : V} : valV (dk3 c t g) (ckey "cells") = some c := valV_pos rfl
theorem dk3_t {c t g : V} : valV (dk3 c t g) (ckey "turn") = some t := (valV_neg ck_ct).trans (valV_pos rfl)
theorem dk3_g {c t g : V} : valV (dk3 c t g) (ckey "great") = some g := (valV_neg ck_cg).trans ((valV_neg ck_tg).trans (valV_pos rfl))
theorem dk3_put_t {c t g v : V} : putK (dk3 c t g) (ckey "turn") v = dk3 c v g := by
  unfold putK dk3
  simp only [List.any_cons, List.map_cons, List.map_nil, if_neg ck_ct, if_neg (Ne.symm ck_tg), decide_eq_false ck_ct, decide_true, if_true, Bool.true_or, Bool.false_or]
theorem dk3_put_g {c t g v : V} : putK (dk3 c t g) (ckey "great") v = dk3 c t v := by
  unfold putK dk3
  simp only [List.any_cons, List.map_cons, List.map_nil, if_neg ck_cg, if_neg ck_tg, decide_eq_false ck_cg, decide_eq_false ck_tg, decide_true, if_true, Bool.true_or, Bool.false_or]
theorem deck_c {H : Hp} {b : Addr} {c t g : V} (e : H b = some (.dK (dk3 c t g))) : DGet H b (.str "cells") (some c) := by
  have z := DGet.k (k := ckey "cells") e
  rw [dk3_c] at z
  exact z
theorem deck_t {H : Hp} {b : Addr} {c t g : V} (e : H b = some (.dK (dk3 c t g))) : DGet H b (.str "turn") (some t) := by
  have z := DGet.k (k := ckey "turn") e
  rw [dk3_t] at z
  exact z
theorem deck_g {H : Hp} {b : Addr} {c t g : V} (e : H b = some (.dK (dk3 c t g))) : DGet H b (.str "great") (some g) := by
  have z := DGet.k (k := ckey "great") e
  rw [dk3_g] at z
  exact z
theorem deck_put_t {H : Hp} {b : Addr} {c t g v : V} (e : H b = some (.dK (dk3 c t g))) : DPut H b (.str "turn") v (upd H b (.dK (dk3 c v g))) := by
  have z := DPut.k (k := ckey "turn") (v := v) e (by show 3 < sizeLine; decide)
  rw [dk3_put_t] at z
  exact z
theorem deck_put_g {H : Hp} {b : Addr} {c t g v : V} (e : H b = some (.dK (dk3 c t g))) : DPut H b (.str "great") v (upd H b (.dK (dk3 c t v))) := by
  have z := DPut.k (k := ckey "great") (v := v) e (by show 3 < sizeLine; decide)
  rw [dk3_put_g] at z
  exact z
theorem dk3_made {c t g : V} : mergeK [] (dk3 c t g) = dk3 c t g := by
  unfold mergeK dk3 putK
  simp only [List.foldl_cons, List.foldl_nil, List.any_nil, List.any_cons, List.nil_append, List.cons_append, decide_eq_false ck_ct, decide_eq_false ck_cg, decide_eq_false ck_tg, Bool.or_false, Bool.false_eq_true, if_false]
theorem DeckAt.there {b : Addr} {k : Nat} {H : Hp} (h : DeckAt b k H) : ∃ o, H b = some o := by
  obtain ⟨c, cs, t, g, e, _⟩ := h
  exact ⟨_, e⟩
theorem DeckAt.same {b : Addr} {k : Nat} {H H' : Hp} (h : DeckAt b k H) (s : Same H H') : DeckAt b k H' := by
  obtain ⟨c, cs, t, g, e, ec, r⟩ := h
  exact ⟨c, cs, t, g, s _ _ e, Keep.of s _ _ ec, r⟩
theorem DeckAt.mono {b : Addr} {k j : Nat} {H : Hp} (h : DeckAt b k H) (hk : k ≤ j) : DeckAt b j H := by
  obtain ⟨c, cs, t, g, e, ec, h1, h2, h3, h4, h5⟩ := h
  exact ⟨c, cs, t, g, e, ec, h1, h2, h3, by omega, h5⟩
theorem off_newO {b p : Addr} {H : Hp} {o : HO} (h : ∃ u, H b = some u) (np : H p = none) : off b (upd H p o) p = some o := by
  obtain ⟨u, e⟩ := h
  exact off_put (fun z => by rw [z, e] at np; cases np) upd_same
theorem plus_offO {b : Addr} {H H' : Hp} (h : ∃ u, H b = some u) (s : Same H H') : Same (plus (off b H) H H') (off b H') := fun a o e => by
  rcases plus_cases e with z | ⟨_, z2, z3⟩
  · exact off_put (off_get z).1 (s _ _ (off_get z).2)
  · obtain ⟨u, eb⟩ := h
    exact off_put (fun w => by rw [w, eb] at z2; cases z2) z3
theorem lit_offO {b : Addr} {H H' : Hp} {v : V} {d : PyData} (h : ∃ u, H b = some u) (s : Same H H') (x : Da (plus (off b H) H H') v d) : Da (off b H') v d := x.same (plus_offO h s)
def spDrawD : Sp := fun vs H Q _ => ∃ b m k, vs = [.ref b, .int m] ∧ DeckAt b k H ∧ k < 1099511627776 ∧ 0 < m ∧ m < 1073741824 ∧ ∀ d H', Keep b H H' → DeckAt b (k + 1) H' → 0 ≤ d → d < m → Q (.int d) H'
def spPickD : Sp := fun vs H Q _ => ∃ b v ds k, vs = [.ref b, v] ∧ DeckAt b k H ∧ k < 1099511627776 ∧ Da (off b H) v (.list ds) ∧ ds ≠ [] ∧ ds.length ≤ 1000 ∧ ∀ r d H', Keep b H H' → DeckAt b (k + 1) H' → d ∈ ds → Da (off b H') r d → Q r H'
def spDeckD (K : PySem.W.Frag) : Sp := fun vs H Q _ => ∃ (a : Addr) (ns : List Int), vs = [.ref a] ∧ SqL K H a (ns.map V.int) ∧ ns.length ≤ 63 ∧ ∀ b H', Same H H' → DeckAt b 0 H' → Q (.ref b) H'
/-! ### for i, x in enumerate(xs) -/
theorem for_enum {K : PySem.W.Frag} {a : Addr} {xs : List V} {g : TG} {tb : TS} {D : Ends} {τ : L2.St} {G : Hp} (Pv : Nat → L2.St → Hp → Prop) (first : Pv 0 τ G) (there : ∀ j τ G, j ≤ xs.length → Pv j τ G → SqL K G a xs)
    (turn : ∀ j x τ G T, xs[j]? = some x → Pv j τ G → G T = none → g (.ref T) τ (upd G T (.tup [.int (j : Nat), x])) fun τ2 G2 => tb { D with nx := Pv (j + 1), ct := Pv (j + 1), bk := D.nx } τ2 G2) (last : ∀ τ G, Pv xs.length τ G → D.nx τ G) :
    ∃ W : Nat → Nat → L2.St → Hp → Prop, (∃ r, W 0 r τ G) ∧ ∀ j r τ G, W j r τ G →
      ((Ite K a).stop j G ∧ D.nx τ G) ∨ ((Ite K a).go j G ∧ ∃ N : L2.St → Hp → Prop, (∀ τz Gz, N τz Gz → ∃ rz, rz < r ∧ W (j + 1) rz τz Gz) ∧ ∀ x Gz, (Ite K a).yld j G x Gz → g x τ Gz fun τ2 G2 => tb { D with nx := N, ct := N, bk := D.nx } τ2 G2) := by
  refine ⟨fun j r τ G => r = xs.length - j ∧ (j ≤ xs.length ∧ Pv j τ G), ⟨xs.length, by simp, Nat.zero_le _, first⟩, ?_⟩
  rintro j r τ G ⟨rfl, hj, p⟩
  have q := there j τ G hj p
  by_cases lt : j < xs.length
  · refine .inr ⟨⟨xs, xs[j], q, by simp [lt]⟩, Pv (j + 1), fun τz Gz pz => ⟨xs.length - (j + 1), by omega, rfl, lt, pz⟩, fun x Gz y => ?_⟩
    obtain ⟨T, z, e1, nT, e2, y⟩ := y
    subst e1 e2
    exact turn j z τ G T (y xs q) p nT
  · have e : j = xs.length := by omega
    subst e
    exact .inl ⟨⟨xs, q, Nat.le_refl _⟩, last τ G p⟩
end VK

namespace K56
open PySem L2 VK
def top (i : Nat) : Stmt := PySem.Challenge.pw_solvedbothsides_k56_errors_and_bounds.main.body.getD i (.Pass ⟨0, 0, 0, 0⟩)
abbrev s_law_deck : Stmt := top 33
abbrev s_law_take : Stmt := top 34
abbrev s_law_one : Stmt := top 35
abbrev s_law_odd : Stmt := top 36
theorem scB : FnScope ["_law_script", "_law_great", "_law_cell"] ["_law_script"] (defScope s_law_deck) := ⟨rfl, rfl, rfl, by decide +kernel, rfl, by decide +kernel, by decide +kernel⟩
theorem scD : FnScope ["_law_deck_here", "_law_many", "_law_digit", "_law_turn", "_law_cells", "_law_mixed"] ["_law_deck_here", "_law_many"] (defScope s_law_take) := ⟨rfl, rfl, rfl, by decide +kernel, rfl, by decide +kernel, by decide +kernel⟩
theorem scP : FnScope ["_law_deck_here", "_law_items"] ["_law_deck_here", "_law_items"] (defScope s_law_one) := ⟨rfl, rfl, rfl, by decide +kernel, rfl, by decide +kernel, by decide +kernel⟩
theorem scO : FnScope ["_law_deck_here", "_law_some"] ["_law_deck_here"] (defScope s_law_odd) := ⟨rfl, rfl, rfl, by decide +kernel, rfl, by decide +kernel, by decide +kernel⟩
/-- a list with 7 put behind -/
def app7 : PyData → PyData
  | .list ds => .list (ds ++ [.int 7])
  | d => d
def shortL : PyData → Bool
  | .list ds => decide (ds.length ≤ 5)
  | _ => true
def spOddD : Sp := fun vs H Q _ => ∃ b k, vs = [.ref b] ∧ DeckAt b k H ∧ k < 1099511627776 ∧ ∀ r d H', Keep b H H' → DeckAt b (k + 1) H' → Da (off b H') r d → Fit 3 70 d → Fit 4 90 (app7 d) → shortL d = true → Q r H'
theorem fit_map {h L : Nat} {ds : List PyData} (z : ds.all (fun d => FitB h L (app7 d)) = true) : ∀ d ∈ ds, Fit h L (app7 d) := fun d hd => fit_of (List.all_eq_true.mp z d hd)
theorem short_all {ds : List PyData} (z : ds.all shortL = true) : ∀ d ∈ ds, shortL d = true := fun d hd => List.all_eq_true.mp z d hd
section
variable {P : Program} {w : World} {K : PySem.W.Frag} {mg : Str → Option Value} {base : Heap}
theorem ok_deck (D : DefAt K mg "_law_deck" s_law_deck ["_law_script"]) (b_len : mg "len" = none) (b_abs : mg "abs" = none) (b_list : mg "list" = none) : CalG P w K mg base 1 "_law_deck" (spDeckD K) := by
  have sc := scB
  refine def_ok D sc (fun vs H Q E h => ?_) fun f cdv A outer s H vs Q E gA hr h => ?_
  · obtain ⟨a, ns, rfl, _⟩ := h
    rfl
  obtain ⟨a, ns, rfl, hS, h63, q⟩ := h
  refine ⟨_, (pss_cons (ps_set (i := 1) sc.nd rfl (.inl rfl) pe_int)
    (pss_cons (ps_for PassesOwn.never rfl (pi_list (pe_slice sl_list (pv 0) po_none (po_some pe_int))) (pg_name (i := 2) sc.nd rfl (.inl rfl)) (pss_one (ps_if (pt_cmpR op_ge (pe_callB (call_abs) (by rfl) b_abs (by decide +kernel) (pa_cons (pv 2) pa_nil)) (pe_op op_pow pe_int pe_int) (nomark _)) (pss_one (ps_set (i := 1) sc.nd rfl (.inl rfl) (pe_op op_add (pe_op op_mul (pv 1) pe_int) (pe_callB (call_abs) (by rfl) b_abs (by decide +kernel) (pa_cons (pv 2) pa_nil))))) pss_nil)))
    (pss_one (ps_ret (pe_disp (pps_cons pe_str (pe_op op_cat (pe_callTy call_list_of (by rfl) b_list (by decide +kernel) (pa_cons (pe_slice sl_list (pv 0) po_none (po_some pe_int)) pa_nil)) (pe_lst (pa_cons (pe_op op_add (pe_callB (call_len_seq) (by rfl) b_len PySem.boot_len (pa_cons (pv 0) pa_nil)) pe_int) pa_nil))) (pps_cons pe_str pe_int (pps_cons pe_str (pv 1) pps_nil))) (by rfl) (by rfl) (fun z => by cases z) (by decide)))))), ?_⟩
  refine ⟨_, rfl, 57, rfl, a, _, rfl, hS, fun p np => ?_⟩
  have s1 : Same H (upd H p (.lst (cutV (ns.map V.int) none (some 57)))) := same_new np
  have hl : (ns.map V.int).length = ns.length := List.length_map _
  have hcut : ∃ cs : List Int, cutV (ns.map V.int) none (some 57) = cs.map V.int ∧ cs.length ≤ 63 := by
    unfold cutV
    rw [← List.map_drop, ← List.map_take]
    refine ⟨_, rfl, ?_⟩
    rw [List.length_take, List.length_drop]
    omega
  refine ⟨p, rfl, ⟨_, SqL.of upd_same⟩, for_list (xs := cutV (ns.map V.int) none (some 57)) (fun i σ Hc => Hc = upd H p (.lst (cutV (ns.map V.int) none (some 57))) ∧ ∃ (g : Int) (y : Option V), σ = [some (.ref a), some (.int g), y] ∧ 0 ≤ g)
    ⟨rfl, 0, none, rfl, Int.le_refl 0⟩ (fun i σ Hc _ hp => ?_) (fun i v σ Hc hi hp => ?_) (fun σ Hc hp => ?_)⟩
  · obtain ⟨rfl, _⟩ := hp
    exact SqL.of upd_same
  · obtain ⟨rfl, g, y, rfl, hg⟩ := hp
    have hm : v ∈ ns.map V.int := by
      have z := List.mem_of_getElem? hi
      unfold cutV at z
      exact List.mem_of_mem_drop (List.mem_of_mem_take z)
    obtain ⟨c, _, rfl⟩ := List.mem_map.mp hm
    refine ⟨_, rfl, c, rfl, _, _, rfl, rfl, ⟨by decide, by decide, by decide⟩, _, _, rfl, rfl, _, rfl, ?_⟩
    refine ite2 (fun t => ?_) (fun t => ?_)
    · refine ⟨_, rfl, _, _, rfl, rfl, .inr ⟨by decide, by decide⟩, _, rfl, c, rfl, _, _, rfl, rfl, ?_⟩
      refine ⟨rfl, _, _, rfl, ?_⟩
      omega
    · exact ⟨rfl, _, _, rfl, hg⟩
  · obtain ⟨rfl, g, y, rfl, hg⟩ := hp
    generalize upd H p (.lst (cutV (ns.map V.int) none (some 57))) = H1 at s1
    obtain ⟨cs, ecs, lcs⟩ := hcut
    refine fun pd npd => ?_
    have s2 := s1.trans (same_new (o := .dK []) npd)
    have epd : (upd H1 pd (.dK [])) pd = some (.dK []) := upd_same
    generalize upd H1 pd (.dK []) = H2 at s2 epd
    refine ⟨_, rfl, 57, rfl, a, _, rfl, s2.seq hS, fun p2 np2 => ?_⟩
    have s3 := same_new (o := .lst (cutV (ns.map V.int) none (some 57))) np2
    refine ⟨p2, _, rfl, .inl (SqL.of upd_same), fun l nl => ?_⟩
    have s4 := s3.trans (same_new (o := .lst (cutV (ns.map V.int) none (some 57))) nl)
    refine ⟨_, rfl, a, _, rfl, .inl ((s2.trans s4).seq hS), _, _, rfl, rfl, (by show 1 ≤ sizeLine; decide), fun m nm => ?_⟩
    have s5 := s4.trans (same_new (o := .lst [.int (((ns.map V.int).length : Nat) + 23)]) nm)
    refine ⟨l, m, _, _, rfl, rfl, same_new nm _ _ upd_same, upd_same, ?_, fun c nc => ?_⟩
    · rw [ecs, List.length_map]
      show cs.length + 1 ≤ sizeLine
      exact Nat.le_of_lt (small1000 (by omega))
    have s6 := s5.trans (same_new (o := .lst (cutV (ns.map V.int) none (some 57) ++ [.int (((ns.map V.int).length : Nat) + 23)])) nc)
    have ec : ∀ G : Hp, (upd G c (.lst (cutV (ns.map V.int) none (some 57) ++ [.int (((ns.map V.int).length : Nat) + 23)]))) c = some (.lst ((cs ++ [(((ns.map V.int).length : Nat) : Int) + 23]).map V.int)) := fun G => by
      rw [upd_same, ecs, List.map_append]
      rfl
    refine ⟨_, rfl, s6 _ _ epd, dk3 (.ref c) (.int 0) (.int g), rfl, by show 3 ≤ 15; decide, ?_⟩
    have ncp : c ≠ pd := fun e => by
      have z := s5 _ _ epd
      rw [← e, nc] at z
      cases z
    rw [dk3_made]
    refine q pd _ (fun z o e => ?_) ⟨c, cs ++ [(((ns.map V.int).length : Nat) : Int) + 23], 0, g, upd_same, off_put ncp (by rw [upd_ne ncp]; exact ec _), by simp, (by rw [List.length_append]; show cs.length + 1 ≤ 64; omega), Int.le_refl 0, Int.le_refl 0, hg⟩
    rw [upd_ne (ne_of_none (s1 _ _ e) npd)]
    exact s6 _ _ (s2 _ _ e)
theorem ok_take (D : DefAt K mg "_law_take" s_law_take ["_law_deck_here", "_law_many"]) (b_len : mg "len" = none) : CalG P w K mg base 1 "_law_take" spDrawD := by
  have sc := scD
  refine def_ok D sc (fun vs H Q E h => ?_) fun f cdv A outer s H vs Q E gA hr h => ?_
  · obtain ⟨b, m, k, rfl, _⟩ := h
    rfl
  obtain ⟨b, m, k, rfl, hb, hk, h0, h1, q⟩ := h
  obtain ⟨c, cs, t, g, e, ec, hne, h64, ht0, htk, hg⟩ := hb
  have hu1 : (A.deeper (PyProof.Rows.envOfC "_law_take" (defScope s_law_take) s.heap.objs.size f cdv)).units + 1 < cLine := by
    have := hr.un
    omega
  have hdiv : ∀ x : Int, CDivW x m := fun x => wide_div (b := 30) h0 (by omega) (by decide) (by decide)
  refine ⟨_, (pss_cons (ps_dput hu1 (pv 0) pe_str (pe_op op_add (pe_dget hu1 (pv 0) pe_str (fun _ _ => rfl)) pe_int) rfl)
    (pss_cons (ps_if (pt_cmpR op_gt (pe_dget hu1 (pv 0) pe_str (fun _ _ => rfl)) pe_int (nomark _)) (pss_cons (ps_set (i := 2) sc.nd rfl (.inl rfl) (pe_op op_mod (pe_dget hu1 (pv 0) pe_str (fun _ _ => rfl)) (pv 1)))
    (pss_cons (ps_dput hu1 (pv 0) pe_str (pe_op op_fdivW (pe_dget hu1 (pv 0) pe_str (fun _ _ => rfl)) (pv 1)) rfl)
    (pss_one (ps_ret (pv 2))))) pss_nil)
    (pss_cons (ps_par (i := 3) (j := 4) rfl sc.nd rfl rfl (by decide) rfl rfl (pa_cons (pe_dget hu1 (pv 0) pe_str (fun _ _ => rfl)) (pa_cons (pe_dget hu1 (pv 0) pe_str (fun _ _ => rfl)) pa_nil)) (by rfl))
    (pss_cons (ps_set (i := 5) sc.nd rfl (.inl rfl) (pe_op op_mod (pe_op op_pow (pe_op op_add (pe_op op_add (pe_op op_mod (pe_ix ix_list (pv 4) (pe_op op_mod (pv 3) (pe_callB (call_len_seq) (by rfl) b_len PySem.boot_len (pa_cons (pv 4) pa_nil))) (fun _ _ => rfl)) pe_int) (pe_op op_mul pe_int (pv 3))) pe_int) pe_int) pe_int))
    (pss_one (ps_ret (pe_op op_mod (pe_op op_fdivW (pe_op op_mod (pe_op op_add (pe_op op_mul (pv 5) pe_int) (pe_op op_mul (pe_op op_mul pe_int (pv 3)) (pv 3))) pe_int) pe_int) (pv 1)))))))), ?_⟩
  have e0 : H b = some (.dK (dk3 (.ref c) (.int t) (.int g))) := e
  refine ⟨_, rfl, b, _, rfl, deck_t e0, _, _, rfl, rfl, _, rfl, b, _, rfl, deck_put_t e0, ?_⟩
  have e1 : (upd H b (.dK (dk3 (.ref c) (.int (t + 1)) (.int g)))) b = some (.dK (dk3 (.ref c) (.int (t + 1)) (.int g))) := upd_same
  have k1 : Keep b H (upd H b (.dK (dk3 (.ref c) (.int (t + 1)) (.int g)))) := Keep.at
  have c1 := k1 _ _ ec
  generalize upd H b (.dK (dk3 (.ref c) (.int (t + 1)) (.int g))) = H1 at e1 k1 c1
  refine ⟨_, rfl, b, _, rfl, deck_g e1, _, _, rfl, rfl, _, rfl, ?_⟩
  refine ite2 (fun d => ?_) (fun d => ?_)
  · refine ⟨_, rfl, b, _, rfl, deck_g e1, _, rfl, _, _, rfl, rfl, h0, ?_⟩
    refine ⟨_, rfl, b, _, rfl, deck_g e1, _, rfl, _, _, rfl, rfl, hdiv _, _, rfl, b, _, rfl, deck_put_g e1, ?_⟩
    refine ⟨_, rfl, q _ _ (k1.trans Keep.at) ⟨c, cs, t + 1, g / m, upd_same, (Keep.at (b := b)) _ _ c1, hne, h64, by omega, by omega, Int.ediv_nonneg hg (Int.le_of_lt h0)⟩ (Int.emod_nonneg _ (by omega)) (Int.emod_lt_of_pos _ h0)⟩
  · refine ⟨_, rfl, b, _, rfl, deck_t e1, _, rfl, b, _, rfl, deck_c e1, _, _, rfl, ?_⟩
    have hpos : (0 : Int) < ((cs.map V.int).length : Nat) := by
      rw [List.length_map]
      have := List.length_pos_iff.mpr hne
      omega
    obtain ⟨ix, hix⟩ : ∃ ix : Nat, (t + 1) % (((cs.map V.int).length : Nat) : Int) = (ix : Int) := ⟨((t + 1) % (((cs.map V.int).length : Nat) : Int)).toNat, by have := Int.emod_nonneg (t + 1) (show (((cs.map V.int).length : Nat) : Int) ≠ 0 by omega); omega⟩
    have hlt : ix < cs.length := by
      have := Int.emod_lt_of_pos (t + 1) hpos
      rw [List.length_map] at this hix
      omega
    have hcell : (cs.map V.int)[ix]? = some (.int cs[ix]) := by
      rw [List.getElem?_map, List.getElem?_eq_getElem hlt]
      rfl
    have hr0 := Int.emod_nonneg cs[ix] (show (2147483399 : Int) ≠ 0 by decide)
    have hr1 := Int.emod_lt_of_pos cs[ix] (show (0 : Int) < 2147483399 by decide)
    refine ⟨_, rfl, _, rfl, _, rfl, c, _, rfl, .inl (SqL.of (off_same _ _ c1)), _, _, rfl, rfl, hpos, c, _, _, .int cs[ix], rfl, rfl, SqL.of (off_same _ _ c1), (by rw [hix]; exact atI_nat hcell), _, _, rfl, rfl, (by show (0 : Int) < 2147483399; decide), ?_⟩
    refine ⟨_, rfl, _, _, rfl, rfl, .inl ⟨by decide, by decide⟩, _, _, rfl, rfl, _, _, rfl, rfl, _, _, rfl, rfl, ⟨by decide, by decide, ?_⟩, _, _, rfl, rfl, (by show (0 : Int) < 2147483489; decide), ?_⟩
    · show (cs[ix] % 2147483399 + 70001 * (t + 1) + 43).natAbs < 2 ^ 64
      generalize cs[ix] % 2147483399 = r at hr0 hr1
      omega
    refine ⟨_, rfl, _, _, rfl, rfl, .inr ⟨by decide, by decide⟩, _, rfl, _, _, rfl, rfl, .inl ⟨by decide, by decide⟩, _, rfl, _, _, rfl, rfl, .inr ⟨by omega, by omega⟩, _, _, rfl, rfl, _, _, rfl, rfl, (by show (0 : Int) < 2147483423; decide), _, _, rfl, rfl, wide_div (b := 4) (by decide) (by decide) (by decide) (by decide), _, rfl, _, _, rfl, rfl, h0, ?_⟩
    exact q _ _ k1 ⟨c, cs, t + 1, g, e1, c1, hne, h64, by omega, by omega, hg⟩ (Int.emod_nonneg _ (by omega)) (Int.emod_lt_of_pos _ h0)
theorem ok_one (D : DefAt K mg "_law_one" s_law_one ["_law_deck_here", "_law_items"]) (c__law_take : CalG P w K mg base 1 "_law_take" spDrawD) (b_len : mg "len" = none) : CalG P w K mg base 2 "_law_one" spPickD := by
  have sc := scP
  refine def_ok D sc (fun vs H Q E h => ?_) fun f cdv A outer s H vs Q E gA hr h => ?_
  · obtain ⟨b, v, ds, k, rfl, _⟩ := h
    rfl
  obtain ⟨b, v, ds, k, rfl, hb, hk, hd, hne, hl, q⟩ := h
  obtain ⟨a, xs, rfl, ha, hx⟩ := hd.lst_inv
  have elen := hx.length
  have hpos : 0 < ds.length := List.length_pos_iff.mpr hne
  refine ⟨_, (pss_one (ps_ret (pe_ix ix_list (pv 1) (pe_cg c__law_take gA hr (by omega) (by rfl) (pa_cons (pv 0) (pa_cons (pe_callB (call_len_seq) (by rfl) b_len PySem.boot_len (pa_cons (pv 1) pa_nil)) pa_nil))) (fun _ _ => rfl)))), ?_⟩
  refine ⟨_, rfl, _, rfl, _, rfl, a, xs, rfl, .inl (SqL.of (off_same _ _ ha)), b, _, k, rfl, hb, hk, by omega, by omega, fun i H1 k1 b1 i0 i1 => ?_⟩
  have hi : i.toNat < ds.length := by omega
  obtain ⟨x, hx1, hdx⟩ := hx.get (i := i.toNat) (List.getElem?_eq_getElem hi)
  have ei : i = ((i.toNat : Nat) : Int) := by omega
  refine ⟨a, xs, i, x, rfl, rfl, SqL.of (off_same _ _ (k1 _ _ ha)), ?_, q x _ H1 k1 b1 (List.getElem_mem hi) (hdx.same k1)⟩
  rw [ei]
  exact atI_nat hx1
theorem ok_odd (D : DefAt K mg "_law_odd" s_law_odd ["_law_deck_here"]) (c__law_one : CalG P w K mg base 2 "_law_one" spPickD) : CalG P w K mg base 3 "_law_odd" spOddD := by
  have sc := scO
  refine def_ok D sc (fun vs H Q E h => ?_) fun f cdv A outer s H vs Q E gA hr h => ?_
  · obtain ⟨b, k, rfl, _⟩ := h
    rfl
  obtain ⟨b, k, rfl, hb, hk, q⟩ := h
  refine ⟨_, (pss_cons (ps_set (i := 1) sc.nd rfl (.inl rfl) (pe_lit (ρ := []) (.lst (.cons .non (.cons .bl (.cons .bl (.cons (.neg .int) (.cons .int (.cons .int (.cons .int (.cons .int (.cons .int (.cons (.pow .int .int ⟨by decide, by decide, by decide⟩) (.cons (.neg (.pow .int .int ⟨by decide, by decide, by decide⟩)) (.cons .str (.cons .str (.cons .str (.cons .str (.cons (.tup .nil (Nat.le_of_ble_eq_true rfl)) (.cons (.tup (.cons .int .nil) (Nat.le_of_ble_eq_true rfl)) (.cons (.tup (.cons .int (.cons .int .nil)) (Nat.le_of_ble_eq_true rfl)) (.cons (.tup (.cons .int (.cons .int .nil)) (Nat.le_of_ble_eq_true rfl)) .nil))))))))))))))))))) (Nat.le_of_ble_eq_true rfl))))
    (pss_cons (ps_set (i := 1) sc.nd rfl (.inl rfl) (pe_op op_cat (pv 1) (pe_lit (ρ := []) (.lst (.cons (.tup (.cons .int (.cons .int (.cons .int .nil))) (Nat.le_of_ble_eq_true rfl)) (.cons (.tup (.cons .int (.cons .int (.cons .int .nil))) (Nat.le_of_ble_eq_true rfl)) (.cons (.tup (.cons .str (.cons .int (.cons .int .nil))) (Nat.le_of_ble_eq_true rfl)) (.cons (.tup (.cons .str (.cons .int (.cons .bl .nil))) (Nat.le_of_ble_eq_true rfl)) (.cons (.tup (.cons .str (.cons .int (.cons .int .nil))) (Nat.le_of_ble_eq_true rfl)) (.cons (.tup (.cons .str (.cons .int .nil)) (Nat.le_of_ble_eq_true rfl)) (.cons (.lst .nil (Nat.le_of_ble_eq_true rfl)) (.cons (.lst (.cons .int .nil) (Nat.le_of_ble_eq_true rfl)) (.cons .dic0 .nil))))))))) (Nat.le_of_ble_eq_true rfl)))))
    (pss_cons (ps_set (i := 1) sc.nd rfl (.inl rfl) (pe_op op_cat (pv 1) (pe_lit (ρ := []) (.lst (.cons (.tup (.cons (.tup .nil (Nat.le_of_ble_eq_true rfl)) (.cons (.tup .nil (Nat.le_of_ble_eq_true rfl)) .nil)) (Nat.le_of_ble_eq_true rfl)) (.cons (.tup (.cons .int (.cons (.tup .nil (Nat.le_of_ble_eq_true rfl)) (.cons (.tup .nil (Nat.le_of_ble_eq_true rfl)) .nil))) (Nat.le_of_ble_eq_true rfl)) (.cons (.tup (.cons .int (.cons (.tup (.cons (.tup (.cons .int (.cons .int (.cons .int .nil))) (Nat.le_of_ble_eq_true rfl)) .nil) (Nat.le_of_ble_eq_true rfl)) (.cons (.tup (.cons (.tup (.cons .int (.cons .int .nil)) (Nat.le_of_ble_eq_true rfl)) .nil) (Nat.le_of_ble_eq_true rfl)) .nil))) (Nat.le_of_ble_eq_true rfl)) (.cons (.dic1 .int) (.cons (.tup (.cons .str (.cons .int (.cons (.lst (.cons .int .nil) (Nat.le_of_ble_eq_true rfl)) .nil))) (Nat.le_of_ble_eq_true rfl)) (.cons (.tup (.cons (.lst (.cons .str .nil) (Nat.le_of_ble_eq_true rfl)) (.cons .int (.cons .int .nil))) (Nat.le_of_ble_eq_true rfl)) .nil)))))) (Nat.le_of_ble_eq_true rfl)))))
    (pss_one (ps_ret (pe_cg c__law_one gA hr (by omega) (by rfl) (pa_cons (pv 0) (pa_cons (pe_op op_cat (pv 1) (pe_lit (ρ := []) (.lst (.cons (.tup (.cons .str (.cons .int (.cons .str .nil))) (Nat.le_of_ble_eq_true rfl)) (.cons (.tup (.cons .non (.cons .int (.cons .int .nil))) (Nat.le_of_ble_eq_true rfl)) (.cons (.tup (.cons .str (.cons .int (.cons .int .nil))) (Nat.le_of_ble_eq_true rfl)) (.cons (.tup (.cons .int (.cons .int (.cons .int (.cons .int .nil)))) (Nat.le_of_ble_eq_true rfl)) (.cons .str .nil))))) (Nat.le_of_ble_eq_true rfl)))) pa_nil)))))))), ?_⟩
  have cat : ∀ {H0 H1 : Hp} {p l m : Addr} {xs zs : List V} {ds es : List PyData}, (∃ o, H0 b = some o) → Same H0 H1 → off b H1 l = some (.lst xs) → DaAll (off b H1) xs ds → off b H1 m = some (.lst zs) → DaAll (off b H1) zs es → H1 p = none →
      off b (upd H1 p (.lst (xs ++ zs))) p = some (.lst (xs ++ zs)) ∧ DaAll (off b (upd H1 p (.lst (xs ++ zs)))) (xs ++ zs) (ds ++ es) := fun ⟨o, hb⟩ s1 _ hx _ hz np =>
    ⟨off_newO ⟨o, s1 _ _ hb⟩ np, (hx.append hz).same (Keep.of (same_new np))⟩
  refine ⟨off b H, off_same, (fun _ z => nomatch z), fun v1 H1 s1 d1 => ?_⟩
  have t0 := hb.there
  obtain ⟨l1, xs1, rfl, e1, x1⟩ := (lit_offO t0 s1 d1).lst_inv
  have hb1 := hb.same s1
  refine ⟨_, rfl, off b H1, off_same, (fun _ z => nomatch z), fun v2 H2 s2 d2 => ?_⟩
  have hb2 := hb1.same s2
  obtain ⟨l2, xs2, rfl, e2, x2⟩ := (lit_offO hb1.there s2 d2).lst_inv
  refine ⟨l1, l2, xs1, xs2, rfl, rfl, s2 _ _ (off_same _ _ e1), off_same _ _ e2, ?_, fun p np => ?_⟩
  · rw [x1.length, x2.length]
    exact Nat.le_of_lt (small1000 (Nat.le_of_ble_eq_true rfl))
  obtain ⟨ep, xp⟩ := cat hb1.there s2 (Keep.of s2 _ _ e1) (x1.same (Keep.of s2)) e2 x2 np
  have s3 := same_new (o := .lst (xs1 ++ xs2)) np
  have hb3 := hb2.same s3
  generalize upd H2 p (.lst (xs1 ++ xs2)) = H3 at ep xp s3 hb3
  refine ⟨_, rfl, off b H3, off_same, (fun _ z => nomatch z), fun v4 H4 s4 d4 => ?_⟩
  have hb4 := hb3.same s4
  obtain ⟨l4, xs4, rfl, e4, x4⟩ := (lit_offO hb3.there s4 d4).lst_inv
  refine ⟨p, l4, _, xs4, rfl, rfl, s4 _ _ (off_same _ _ ep), off_same _ _ e4, ?_, fun p5 np5 => ?_⟩
  · rw [xp.length, x4.length]
    exact Nat.le_of_lt (small1000 (Nat.le_of_ble_eq_true rfl))
  obtain ⟨ep5, xp5⟩ := cat hb3.there s4 (Keep.of s4 _ _ ep) (xp.same (Keep.of s4)) e4 x4 np5
  have s5 := same_new (o := .lst (xs1 ++ xs2 ++ xs4)) np5
  have hb5 := hb4.same s5
  generalize upd H4 p5 (.lst (xs1 ++ xs2 ++ xs4)) = H5 at ep5 xp5 s5 hb5
  refine ⟨_, rfl, _, rfl, off b H5, off_same, (fun _ z => nomatch z), fun v6 H6 s6 d6 => ?_⟩
  have hb6 := hb5.same s6
  obtain ⟨l6, xs6, rfl, e6, x6⟩ := (lit_offO hb5.there s6 d6).lst_inv
  refine ⟨p5, l6, _, xs6, rfl, rfl, s6 _ _ (off_same _ _ ep5), off_same _ _ e6, ?_, fun p7 np7 => ?_⟩
  · rw [xp5.length, x6.length]
    exact Nat.le_of_lt (small1000 (Nat.le_of_ble_eq_true rfl))
  obtain ⟨ep7, xp7⟩ := cat hb5.there s6 (Keep.of s6 _ _ ep5) (xp5.same (Keep.of s6)) e6 x6 np7
  have s7 := same_new (o := .lst (xs1 ++ xs2 ++ xs4 ++ xs6)) np7
  refine ⟨b, .ref p7, _, k, rfl, hb6.same s7, hk, .lst ep7 xp7, (by simp), Nat.le_of_ble_eq_true rfl, fun r d H' k' b' hm hd => ?_⟩
  exact q r d H' (((((((Keep.of s1).trans (Keep.of s2)).trans (Keep.of s3)).trans (Keep.of s4)).trans (Keep.of s5)).trans (Keep.of s6)).trans ((Keep.of s7).trans k')) b' hd (fit_all (by decide +kernel) d hm) (fit_map (by decide +kernel) d hm) (short_all (by decide +kernel) d hm)
end
end K56

namespace K56
open PySem L2 VK
def ErIs (H : Hp) (a C : Addr) : Prop := (∃ fs, ErAt H a C fs) ∨ Er0 H a C
theorem ErIs.same {H H' : Hp} {a C : Addr} (h : ErIs H a C) (s : Same H H') : ErIs H' a C := by
  rcases h with ⟨fs, h⟩ | h
  · exact .inl ⟨fs, h.same s⟩
  · exact .inr (h.same s)
/-- what the written part says of the fifteen classes -/
structure Tab (K : PySem.W.Frag) (C : Nat → Addr) (T : Addr) : Prop where
  exd : ∀ i, i < 15 → ExcD K (C i)
  kit : ∀ i j, i < 15 → j < 15 → PySem.W.kitOne K (.ref (C i)) (.ref (C j)) = some (decide (i = j))
  kT : ∀ i, i < 15 → PySem.W.kitOne K (.ref (C i)) (.ref T) = some (decide (i < 12))
  kV : ∀ i, i < 15 → PySem.W.kitOne K (.ref (C i)) (.type "ValueError") = some (decide (i < 12))
  kL : ∀ i, i < 15 → PySem.W.kitOne K (.ref (C i)) (.type "LookupError") = some (decide (12 ≤ i))
  kK : ∀ i, i < 15 → PySem.W.kitOne K (.ref (C i)) (.type "KeyError") = some false
  kI : ∀ i, i < 15 → PySem.W.kitOne K (.ref (C i)) (.type "IndexError") = some false
/-! ### bools as data -/
theorem lay_bls : ∀ ns : List Bool, PyData.canLayAll0 (ns.map PyData.bool) = true
  | [] => by simp only [List.map_nil, PyData.canLayAll0]
  | n :: ns => by
    rw [List.map_cons, PyData.canLayAll0, lay_bls ns]
    simp [PyData.canLay0]
theorem deep_bls : ∀ ns : List Bool, PyData.depthAll (ns.map PyData.bool) = 0
  | [] => by simp only [List.map_nil, PyData.depthAll]
  | n :: ns => by
    rw [List.map_cons, PyData.depthAll, deep_bls ns]
    simp [PyData.depth]
theorem shaped_bls (ns : List Bool) : SeqAt.shaped (.list (ns.map PyData.bool)) = true := by
  show (PyData.canLay0 (.list (ns.map PyData.bool)) && decide (PyData.depth (.list (ns.map PyData.bool)) ≤ 64)) = true
  rw [Bool.and_eq_true]
  refine ⟨by simp only [PyData.canLay0]; exact lay_bls ns, decide_eq_true ?_⟩
  simp only [PyData.depth, deep_bls]
  decide
theorem dp_bls {K : PySem.W.Frag} {H : Hp} : ∀ ns : List Bool, DpAll K H (ns.map V.bl) (ns.map PyData.bool)
  | [] => .nil
  | n :: ns => .cons (.bl n) (dp_bls ns)
theorem eqv_bls : ∀ ns : List Bool, PyData.eqvAll (ns.map PyData.bool) (ns.map PyData.bool) = true
  | [] => by simp [PyData.eqvAll]
  | n :: ns => by
    rw [List.map_cons, PyData.eqvAll, eqv_bls ns]
    simp [PyData.eqv]
/-- 0, 1, .. 14: which of them i is -/
def which (i : Nat) : List Bool := (List.range 15).map fun j => decide (i = j)
theorem which_is (i : Nat) : which i = [decide (i = 0), decide (i = 1), decide (i = 2), decide (i = 3), decide (i = 4), decide (i = 5), decide (i = 6), decide (i = 7), decide (i = 8), decide (i = 9), decide (i = 10), decide (i = 11), decide (i = 12), decide (i = 13), decide (i = 14)] := rfl
abbrev s_law_flags : Stmt := top 37
theorem scFl : FnScope ["_law_error", "_law_found"] ["_law_error"] (defScope s_law_flags) := ⟨rfl, rfl, rfl, by decide +kernel, rfl, by decide +kernel, by decide +kernel⟩
def spFlags (C : Nat → Addr) : Sp := fun vs H Q _ => ∃ (a : Addr) (i : Nat), vs = [.ref a] ∧ i < 15 ∧ ErIs H a (C i) ∧ ∀ p H', Same H H' → H' p = some (.lst ((which i).map V.bl)) → Q (.ref p) H'
section
variable {P : Program} {w : World} {K : PySem.W.Frag} {mg : Str → Option Value} {base : Heap}
set_option maxHeartbeats 2000000 in
theorem ok_flags (D : DefAt K mg "_law_flags" s_law_flags ["_law_error"]) {C : Nat → Addr} {T : Addr} (tab : Tab K C T) (b_isinstance : mg "isinstance" = none)
    (g_BadFacts : mg "BadFacts" = some (.ref (C 0))) (g_BadFormula : mg "BadFormula" = some (.ref (C 1))) (g_BadSize : mg "BadSize" = some (.ref (C 2))) (g_BadText : mg "BadText" = some (.ref (C 3))) (g_NoTable : mg "NoTable" = some (.ref (C 4))) (g_NotOnce : mg "NotOnce" = some (.ref (C 5))) (g_Taken : mg "Taken" = some (.ref (C 6))) (g_TooMany : mg "TooMany" = some (.ref (C 7))) (g_UnlikeNames : mg "UnlikeNames" = some (.ref (C 8))) (g_Full : mg "Full" = some (.ref (C 9))) (g_NothingToUndo : mg "NothingToUndo" = some (.ref (C 10))) (g_TornGivens : mg "TornGivens" = some (.ref (C 11))) (g_NoClaim : mg "NoClaim" = some (.ref (C 12))) (g_NoEntry : mg "NoEntry" = some (.ref (C 13))) (g_NoPair : mg "NoPair" = some (.ref (C 14))) : CalG P w K mg base 1 "_law_flags" (spFlags C) := by
  have sc := scFl
  have r_BadFacts : RelV (.ref (C 0)) (.ref (C 0)) := rfl
  have r_BadFormula : RelV (.ref (C 1)) (.ref (C 1)) := rfl
  have r_BadSize : RelV (.ref (C 2)) (.ref (C 2)) := rfl
  have r_BadText : RelV (.ref (C 3)) (.ref (C 3)) := rfl
  have r_NoTable : RelV (.ref (C 4)) (.ref (C 4)) := rfl
  have r_NotOnce : RelV (.ref (C 5)) (.ref (C 5)) := rfl
  have r_Taken : RelV (.ref (C 6)) (.ref (C 6)) := rfl
  have r_TooMany : RelV (.ref (C 7)) (.ref (C 7)) := rfl
  have r_UnlikeNames : RelV (.ref (C 8)) (.ref (C 8)) := rfl
  have r_Full : RelV (.ref (C 9)) (.ref (C 9)) := rfl
  have r_NothingToUndo : RelV (.ref (C 10)) (.ref (C 10)) := rfl
  have r_TornGivens : RelV (.ref (C 11)) (.ref (C 11)) := rfl
  have r_NoClaim : RelV (.ref (C 12)) (.ref (C 12)) := rfl
  have r_NoEntry : RelV (.ref (C 13)) (.ref (C 13)) := rfl
  have r_NoPair : RelV (.ref (C 14)) (.ref (C 14)) := rfl
  refine def_ok D sc (fun vs H Q E h => ?_) fun f cdv A outer s H vs Q E gA hr h => ?_
  · obtain ⟨a, i, rfl, _⟩ := h
    rfl
  obtain ⟨a, i, rfl, hi, er, q⟩ := h
  refine ⟨_, (pss_cons (ps_set (i := 1) sc.nd rfl (.inl rfl) (pe_lst (pa_cons (pe_callB (call_isV) (by rfl) b_isinstance (by decide +kernel) (pa_cons (pv 0) (pa_cons (pe_glob rfl g_BadFacts r_BadFacts) pa_nil))) (pa_cons (pe_callB (call_isV) (by rfl) b_isinstance (by decide +kernel) (pa_cons (pv 0) (pa_cons (pe_glob rfl g_BadFormula r_BadFormula) pa_nil))) (pa_cons (pe_callB (call_isV) (by rfl) b_isinstance (by decide +kernel) (pa_cons (pv 0) (pa_cons (pe_glob rfl g_BadSize r_BadSize) pa_nil))) pa_nil)))))
    (pss_cons (ps_set (i := 1) sc.nd rfl (.inl rfl) (pe_op op_cat (pv 1) (pe_lst (pa_cons (pe_callB (call_isV) (by rfl) b_isinstance (by decide +kernel) (pa_cons (pv 0) (pa_cons (pe_glob rfl g_BadText r_BadText) pa_nil))) (pa_cons (pe_callB (call_isV) (by rfl) b_isinstance (by decide +kernel) (pa_cons (pv 0) (pa_cons (pe_glob rfl g_NoTable r_NoTable) pa_nil))) (pa_cons (pe_callB (call_isV) (by rfl) b_isinstance (by decide +kernel) (pa_cons (pv 0) (pa_cons (pe_glob rfl g_NotOnce r_NotOnce) pa_nil))) pa_nil))))))
    (pss_cons (ps_set (i := 1) sc.nd rfl (.inl rfl) (pe_op op_cat (pv 1) (pe_lst (pa_cons (pe_callB (call_isV) (by rfl) b_isinstance (by decide +kernel) (pa_cons (pv 0) (pa_cons (pe_glob rfl g_Taken r_Taken) pa_nil))) (pa_cons (pe_callB (call_isV) (by rfl) b_isinstance (by decide +kernel) (pa_cons (pv 0) (pa_cons (pe_glob rfl g_TooMany r_TooMany) pa_nil))) (pa_cons (pe_callB (call_isV) (by rfl) b_isinstance (by decide +kernel) (pa_cons (pv 0) (pa_cons (pe_glob rfl g_UnlikeNames r_UnlikeNames) pa_nil))) pa_nil))))))
    (pss_cons (ps_set (i := 1) sc.nd rfl (.inl rfl) (pe_op op_cat (pv 1) (pe_lst (pa_cons (pe_callB (call_isV) (by rfl) b_isinstance (by decide +kernel) (pa_cons (pv 0) (pa_cons (pe_glob rfl g_Full r_Full) pa_nil))) (pa_cons (pe_callB (call_isV) (by rfl) b_isinstance (by decide +kernel) (pa_cons (pv 0) (pa_cons (pe_glob rfl g_NothingToUndo r_NothingToUndo) pa_nil))) (pa_cons (pe_callB (call_isV) (by rfl) b_isinstance (by decide +kernel) (pa_cons (pv 0) (pa_cons (pe_glob rfl g_TornGivens r_TornGivens) pa_nil))) pa_nil))))))
    (pss_cons (ps_expr (pe_bm PySem.F.plainAttrs_list PySem.F.slot_list_append PySem.F.type_list_append mt_append (pv 1) (pa_cons (pe_callB (call_isV) (by rfl) b_isinstance (by decide +kernel) (pa_cons (pv 0) (pa_cons (pe_glob rfl g_NoClaim r_NoClaim) pa_nil))) pa_nil)))
    (pss_one (ps_ret (pe_op op_cat (pv 1) (pe_lst (pa_cons (pe_callB (call_isV) (by rfl) b_isinstance (by decide +kernel) (pa_cons (pv 0) (pa_cons (pe_glob rfl g_NoEntry r_NoEntry) pa_nil))) (pa_cons (pe_callB (call_isV) (by rfl) b_isinstance (by decide +kernel) (pa_cons (pv 0) (pa_cons (pe_glob rfl g_NoPair r_NoPair) pa_nil))) pa_nil))))))))))), ?_⟩
  have X := tab.exd i hi
  have k := tab.kit i
  refine ⟨_, rfl, a, C i, .ref (C 0), .ref (C 0), _, rfl, er, X, fun u r => r, k 0 hi (by decide), _, rfl, a, C i, .ref (C 1), .ref (C 1), _, rfl, er, X, fun u r => r, k 1 hi (by decide), _, rfl, a, C i, .ref (C 2), .ref (C 2), _, rfl, er, X, fun u r => r, k 2 hi (by decide), (by show 3 ≤ sizeLine; decide), fun p0 n0 => ?_⟩
  have s0 : Same H (upd H p0 (.lst [.bl (decide (i = 0)), .bl (decide (i = 1)), .bl (decide (i = 2))])) := same_new n0
  have e0 : (upd H p0 (.lst [.bl (decide (i = 0)), .bl (decide (i = 1)), .bl (decide (i = 2))])) p0 = some (.lst [.bl (decide (i = 0)), .bl (decide (i = 1)), .bl (decide (i = 2))]) := upd_same
  generalize upd H p0 (.lst [.bl (decide (i = 0)), .bl (decide (i = 1)), .bl (decide (i = 2))]) = H0 at s0 e0
  refine ⟨_, rfl, _, rfl, a, C i, .ref (C 3), .ref (C 3), _, rfl, (er.same s0), X, fun u r => r, k 3 hi (by decide), _, rfl, a, C i, .ref (C 4), .ref (C 4), _, rfl, (er.same s0), X, fun u r => r, k 4 hi (by decide), _, rfl, a, C i, .ref (C 5), .ref (C 5), _, rfl, (er.same s0), X, fun u r => r, k 5 hi (by decide), (by show 3 ≤ sizeLine; decide), fun m0 nm0 => ?_⟩
  refine ⟨p0, m0, _, _, rfl, rfl, same_new nm0 _ _ e0, upd_same, (by show 3 + 3 ≤ sizeLine; decide), fun p1 n1 => ?_⟩
  have s1 : Same H (upd (upd H0 m0 (.lst [.bl (decide (i = 3)), .bl (decide (i = 4)), .bl (decide (i = 5))])) p1 (.lst ([.bl (decide (i = 0)), .bl (decide (i = 1)), .bl (decide (i = 2))] ++ [.bl (decide (i = 3)), .bl (decide (i = 4)), .bl (decide (i = 5))]))) := (s0.trans (same_new nm0)).trans (same_new n1)
  have e1 : (upd (upd H0 m0 (.lst [.bl (decide (i = 3)), .bl (decide (i = 4)), .bl (decide (i = 5))])) p1 (.lst ([.bl (decide (i = 0)), .bl (decide (i = 1)), .bl (decide (i = 2))] ++ [.bl (decide (i = 3)), .bl (decide (i = 4)), .bl (decide (i = 5))]))) p1 = some (.lst [.bl (decide (i = 0)), .bl (decide (i = 1)), .bl (decide (i = 2)), .bl (decide (i = 3)), .bl (decide (i = 4)), .bl (decide (i = 5))]) := upd_same
  have o1 : H p1 = none := s0.free ((same_new nm0).free n1)
  generalize upd (upd H0 m0 (.lst [.bl (decide (i = 3)), .bl (decide (i = 4)), .bl (decide (i = 5))])) p1 (.lst ([.bl (decide (i = 0)), .bl (decide (i = 1)), .bl (decide (i = 2))] ++ [.bl (decide (i = 3)), .bl (decide (i = 4)), .bl (decide (i = 5))])) = H1 at s1 e1
  refine ⟨_, rfl, _, rfl, a, C i, .ref (C 6), .ref (C 6), _, rfl, (er.same s1), X, fun u r => r, k 6 hi (by decide), _, rfl, a, C i, .ref (C 7), .ref (C 7), _, rfl, (er.same s1), X, fun u r => r, k 7 hi (by decide), _, rfl, a, C i, .ref (C 8), .ref (C 8), _, rfl, (er.same s1), X, fun u r => r, k 8 hi (by decide), (by show 3 ≤ sizeLine; decide), fun m1 nm1 => ?_⟩
  refine ⟨p1, m1, _, _, rfl, rfl, same_new nm1 _ _ e1, upd_same, (by show 6 + 3 ≤ sizeLine; decide), fun p2 n2 => ?_⟩
  have s2 : Same H (upd (upd H1 m1 (.lst [.bl (decide (i = 6)), .bl (decide (i = 7)), .bl (decide (i = 8))])) p2 (.lst ([.bl (decide (i = 0)), .bl (decide (i = 1)), .bl (decide (i = 2)), .bl (decide (i = 3)), .bl (decide (i = 4)), .bl (decide (i = 5))] ++ [.bl (decide (i = 6)), .bl (decide (i = 7)), .bl (decide (i = 8))]))) := (s1.trans (same_new nm1)).trans (same_new n2)
  have e2 : (upd (upd H1 m1 (.lst [.bl (decide (i = 6)), .bl (decide (i = 7)), .bl (decide (i = 8))])) p2 (.lst ([.bl (decide (i = 0)), .bl (decide (i = 1)), .bl (decide (i = 2)), .bl (decide (i = 3)), .bl (decide (i = 4)), .bl (decide (i = 5))] ++ [.bl (decide (i = 6)), .bl (decide (i = 7)), .bl (decide (i = 8))]))) p2 = some (.lst [.bl (decide (i = 0)), .bl (decide (i = 1)), .bl (decide (i = 2)), .bl (decide (i = 3)), .bl (decide (i = 4)), .bl (decide (i = 5)), .bl (decide (i = 6)), .bl (decide (i = 7)), .bl (decide (i = 8))]) := upd_same
  have o2 : H p2 = none := s1.free ((same_new nm1).free n2)
  generalize upd (upd H1 m1 (.lst [.bl (decide (i = 6)), .bl (decide (i = 7)), .bl (decide (i = 8))])) p2 (.lst ([.bl (decide (i = 0)), .bl (decide (i = 1)), .bl (decide (i = 2)), .bl (decide (i = 3)), .bl (decide (i = 4)), .bl (decide (i = 5))] ++ [.bl (decide (i = 6)), .bl (decide (i = 7)), .bl (decide (i = 8))])) = H2 at s2 e2
  refine ⟨_, rfl, _, rfl, a, C i, .ref (C 9), .ref (C 9), _, rfl, (er.same s2), X, fun u r => r, k 9 hi (by decide), _, rfl, a, C i, .ref (C 10), .ref (C 10), _, rfl, (er.same s2), X, fun u r => r, k 10 hi (by decide), _, rfl, a, C i, .ref (C 11), .ref (C 11), _, rfl, (er.same s2), X, fun u r => r, k 11 hi (by decide), (by show 3 ≤ sizeLine; decide), fun m2 nm2 => ?_⟩
  refine ⟨p2, m2, _, _, rfl, rfl, same_new nm2 _ _ e2, upd_same, (by show 9 + 3 ≤ sizeLine; decide), fun p3 n3 => ?_⟩
  have s3 : Same H (upd (upd H2 m2 (.lst [.bl (decide (i = 9)), .bl (decide (i = 10)), .bl (decide (i = 11))])) p3 (.lst ([.bl (decide (i = 0)), .bl (decide (i = 1)), .bl (decide (i = 2)), .bl (decide (i = 3)), .bl (decide (i = 4)), .bl (decide (i = 5)), .bl (decide (i = 6)), .bl (decide (i = 7)), .bl (decide (i = 8))] ++ [.bl (decide (i = 9)), .bl (decide (i = 10)), .bl (decide (i = 11))]))) := (s2.trans (same_new nm2)).trans (same_new n3)
  have e3 : (upd (upd H2 m2 (.lst [.bl (decide (i = 9)), .bl (decide (i = 10)), .bl (decide (i = 11))])) p3 (.lst ([.bl (decide (i = 0)), .bl (decide (i = 1)), .bl (decide (i = 2)), .bl (decide (i = 3)), .bl (decide (i = 4)), .bl (decide (i = 5)), .bl (decide (i = 6)), .bl (decide (i = 7)), .bl (decide (i = 8))] ++ [.bl (decide (i = 9)), .bl (decide (i = 10)), .bl (decide (i = 11))]))) p3 = some (.lst [.bl (decide (i = 0)), .bl (decide (i = 1)), .bl (decide (i = 2)), .bl (decide (i = 3)), .bl (decide (i = 4)), .bl (decide (i = 5)), .bl (decide (i = 6)), .bl (decide (i = 7)), .bl (decide (i = 8)), .bl (decide (i = 9)), .bl (decide (i = 10)), .bl (decide (i = 11))]) := upd_same
  have o3 : H p3 = none := s2.free ((same_new nm2).free n3)
  generalize upd (upd H2 m2 (.lst [.bl (decide (i = 9)), .bl (decide (i = 10)), .bl (decide (i = 11))])) p3 (.lst ([.bl (decide (i = 0)), .bl (decide (i = 1)), .bl (decide (i = 2)), .bl (decide (i = 3)), .bl (decide (i = 4)), .bl (decide (i = 5)), .bl (decide (i = 6)), .bl (decide (i = 7)), .bl (decide (i = 8))] ++ [.bl (decide (i = 9)), .bl (decide (i = 10)), .bl (decide (i = 11))])) = H3 at s3 e3
  refine ⟨_, rfl, .inl ⟨rfl, _, SqL.of e3⟩, _, rfl, a, C i, .ref (C 12), .ref (C 12), _, rfl, (er.same s3), X, fun u r => r, k 12 hi (by decide), p3, _, _, rfl, rfl, e3, (by show 12 < sizeLine; decide), ?_⟩
  have s4 : Same H (upd H3 p3 (.lst [.bl (decide (i = 0)), .bl (decide (i = 1)), .bl (decide (i = 2)), .bl (decide (i = 3)), .bl (decide (i = 4)), .bl (decide (i = 5)), .bl (decide (i = 6)), .bl (decide (i = 7)), .bl (decide (i = 8)), .bl (decide (i = 9)), .bl (decide (i = 10)), .bl (decide (i = 11)), .bl (decide (i = 12))])) := fun z o e => by
    rw [upd_ne (ne_of_none e o3)]
    exact s3 _ _ e
  have e4 : (upd H3 p3 (.lst [.bl (decide (i = 0)), .bl (decide (i = 1)), .bl (decide (i = 2)), .bl (decide (i = 3)), .bl (decide (i = 4)), .bl (decide (i = 5)), .bl (decide (i = 6)), .bl (decide (i = 7)), .bl (decide (i = 8)), .bl (decide (i = 9)), .bl (decide (i = 10)), .bl (decide (i = 11)), .bl (decide (i = 12))])) p3 = some (.lst [.bl (decide (i = 0)), .bl (decide (i = 1)), .bl (decide (i = 2)), .bl (decide (i = 3)), .bl (decide (i = 4)), .bl (decide (i = 5)), .bl (decide (i = 6)), .bl (decide (i = 7)), .bl (decide (i = 8)), .bl (decide (i = 9)), .bl (decide (i = 10)), .bl (decide (i = 11)), .bl (decide (i = 12))]) := upd_same
  refine ⟨_, rfl, _, rfl, a, C i, .ref (C 13), .ref (C 13), _, rfl, (er.same s4), X, fun u r => r, k 13 hi (by decide), _, rfl, a, C i, .ref (C 14), .ref (C 14), _, rfl, (er.same s4), X, fun u r => r, k 14 hi (by decide), (by show 2 ≤ sizeLine; decide), fun m4 nm4 => ?_⟩
  refine ⟨p3, m4, _, _, rfl, rfl, same_new nm4 _ _ e4, upd_same, (by show 13 + 2 ≤ sizeLine; decide), fun p5 n5 => ?_⟩
  exact q p5 _ ((s4.trans (same_new nm4)).trans (same_new n5)) upd_same
end
end K56

namespace K56
open PySem L2 VK
abbrev slaw : Stmt := top 38
def lawN : List Str := ["_law_script", "_law_deck_here", "_law_bounds", "_law_turn", "_law_one_here", "_law_two", "_law_made", "_law_kept", "_law_number", "_law_error", "_law_told", "_law_place"]
theorem scLaw : FnScope lawN ["_law_script"] (defScope slaw) := ⟨rfl, rfl, rfl, by decide +kernel, rfl, by decide +kernel, by decide +kernel⟩
def spLaw (K : PySem.W.Frag) : Sp := fun vs H Q _ => ∃ (a : Addr) (ns : List Int), vs = [.ref a] ∧ SqL K H a (ns.map V.int) ∧ ns.length ≤ 63 ∧ ∀ H', Q (.bl true) H'
structure Rp (d : PyData) : Prop where
  sh : d.showable = true
  dp : d.depth ≤ 100
  ln : d.shown.length ≤ sizeLine
theorem rp_of {h L : Nat} {d : PyData} (f : Fit h L d) (h1 : h ≤ 100) (h2 : L ≤ 100000) : Rp d := ⟨f.sh, Nat.le_trans f.dp h1, Nat.le_trans (Nat.le_trans f.ln h2) (by rw [sizeLine_eq]; decide)⟩
def boundsD : PyData := .list [.int 4, .int 20, .int 10, .int 12, .int 3, .int 4, .int 13, .int 8, .int 40, .int 5, .int 15, .int 60, .int 20000, .int 6, .int 30]
theorem bounds_fit : Rp boundsD := rp_of (h := 1) (L := 100) (fit_of (by decide +kernel)) (by decide) (by decide)
theorem rp_rep {h L n : Nat} {d : PyData} (f : Fit h L d) (hn : n ≤ 100) (h1 : h ≤ 90) (h2 : L ≤ 900) : Rp (.list (List.replicate n d)) := by
  refine rp_of (Fit.lstAll (h := h) (L := L) (ds := List.replicate n d) fun e he => ?_) (by omega) ?_
  · rw [(List.mem_replicate.mp he).2]
    exact f
  · rw [List.length_replicate]
    have : n * (L + 2) ≤ 100 * 902 := Nat.mul_le_mul hn (by omega)
    omega
theorem da_rep {H : Hp} {v : V} {d : PyData} (h : Da H v d) : ∀ n : Nat, DaAll H (List.replicate n v) (List.replicate n d)
  | 0 => .nil
  | n + 1 => .cons h (da_rep h n)
theorem fld1 {f : Str} {v : V} : (fldV [f] [v]).lookup f = some v := by
  show List.lookup f ((f, v) :: []) = some v
  rw [lookup_put, if_pos rfl]
theorem fldB {f e : Str} {v u : V} : (fldV [f, e] [v, u]).lookup e = some u := by
  show List.lookup e ((e, u) :: [(f, v)]) = some u
  rw [lookup_put, if_pos rfl]
theorem fldA {f e : Str} {v u : V} (h : f ≠ e) : (fldV [f, e] [v, u]).lookup f = some v := by
  show List.lookup f ((e, u) :: [(f, v)]) = some v
  rw [lookup_put, if_neg h, lookup_put, if_pos rfl]
theorem ErAt.put {H : Hp} {a C p : Addr} {fs : List (Str × V)} {xs : List V} {o : HO} (h : ErAt H a C fs) (hp : H p = some (.lst xs)) : ErAt (upd H p o) a C fs := by
  obtain ⟨d, ha, hd⟩ := h
  refine ⟨d, ?_, ?_⟩
  · rw [upd_ne (fun z => by rw [z, hp] at ha; cases ha)]
    exact ha
  · rw [upd_ne (fun z => by rw [z, hp] at hd; cases hd)]
    exact hd
theorem Er0.put {H : Hp} {a C p : Addr} {xs : List V} {o : HO} (h : Er0 H a C) (hp : H p = some (.lst xs)) : Er0 (upd H p o) a C := by
  have ha : H a = some (ExO (.ref C) a) := h
  show (upd H p o) a = some (ExO (.ref C) a)
  rw [upd_ne (fun z => by rw [z, hp] at ha; cases ha)]
  exact ha
theorem ErIs.put {H : Hp} {a C p : Addr} {xs : List V} {o : HO} (h : ErIs H a C) (hp : H p = some (.lst xs)) : ErIs (upd H p o) a C := by
  rcases h with ⟨fs, h⟩ | h
  · exact .inl ⟨fs, ErAt.put h hp⟩
  · exact .inr (Er0.put h hp)
theorem PS.imp {X : Cx} {st : Stmt} {t t' : TS} (h : PS X st t) (i : ∀ D σ H, t' D σ H → t D σ H) : PS X st t' := ⟨fun pins s σ H D I q => h.run pins s σ H D I (i D σ H q)⟩
def Made (C : Nat → Addr) (H : Hp) (es : List V) : Prop := es.length = 15 ∧ ∀ (i : Nat) (x : V), es[i]? = some x → ∃ a, x = .ref a ∧ ErIs H a (C i) ∧ i < 15
theorem Made.same {C : Nat → Addr} {H H' : Hp} {es : List V} (h : Made C H es) (s : Same H H') : Made C H' es := ⟨h.1, fun i x hx => by
  obtain ⟨a, e, er, hi⟩ := h.2 i x hx
  exact ⟨a, e, er.same s, hi⟩⟩
theorem Made.put {C : Nat → Addr} {H : Hp} {es : List V} {p : Addr} {xs : List V} {o : HO} (h : Made C H es) (hp : H p = some (.lst xs)) : Made C (upd H p o) es := ⟨h.1, fun i x hx => by
  obtain ⟨a, e, er, hi⟩ := h.2 i x hx
  exact ⟨a, e, er.put hp, hi⟩⟩
theorem bls_inv {H : Hp} : ∀ {xs : List V} {bs : List Bool}, DaAll H xs (bs.map PyData.bool) → xs = bs.map V.bl
  | _, [], h => by cases h; rfl
  | _, b :: bs, h => by
    cases h with
    | cons a r =>
      cases a
      rw [bls_inv r]
      rfl
theorem eqv_is (bs : List Bool) : PyData.eqv (.list (bs.map PyData.bool)) (.list (bs.map PyData.bool)) = true := by
  rw [PyData.eqv]
  exact eqv_bls bs
theorem dec_ij (i j : Nat) : decide (V.int (0 + (i : Int)) = V.int (j : Int)) = decide (j = i) := by
  rw [Bool.eq_iff_iff, decide_eq_true_iff, decide_eq_true_iff]
  exact ⟨fun z => by have := V.int.inj z; omega, fun z => by rw [z, Int.zero_add]⟩
/-- the last statement of a turn: the loop over the errors made -/
def tLast (C : Nat → Addr) : TS := fun D σ H => ∃ (x0 x1 x2 x3 x4 x5 x7 y8 y9 y10 y11 : Option V) (pM : Addr) (es : List V), σ = [x0, x1, x2, x3, x4, x5, some (.ref pM), x7, y8, y9, y10, y11] ∧ H pM = some (.lst es) ∧ Made C H es ∧
  ∀ (y8 y9 y10 y11 : Option V) (H' : Hp), Same H H' → D.nx [x0, x1, x2, x3, x4, x5, some (.ref pM), x7, y8, y9, y10, y11] H'
theorem made15 {C : Nat → Addr} {H : Hp} {e0 e1 e2 e3 e4 e5 e6 e7 e8 e9 e10 e11 e12 e13 e14 : Addr} (h0 : ErIs H e0 (C 0)) (h1 : ErIs H e1 (C 1)) (h2 : ErIs H e2 (C 2)) (h3 : ErIs H e3 (C 3)) (h4 : ErIs H e4 (C 4)) (h5 : ErIs H e5 (C 5)) (h6 : ErIs H e6 (C 6)) (h7 : ErIs H e7 (C 7)) (h8 : ErIs H e8 (C 8)) (h9 : ErIs H e9 (C 9)) (h10 : ErIs H e10 (C 10)) (h11 : ErIs H e11 (C 11)) (h12 : ErIs H e12 (C 12)) (h13 : ErIs H e13 (C 13)) (h14 : ErIs H e14 (C 14)) :
    Made C H [.ref e0, .ref e1, .ref e2, .ref e3, .ref e4, .ref e5, .ref e6, .ref e7, .ref e8, .ref e9, .ref e10, .ref e11, .ref e12, .ref e13, .ref e14] := ⟨rfl, fun i x hx => by
  match i, hx with
  | 0, hx => exact ⟨e0, (Option.some.inj hx).symm, h0, by decide⟩
  | 1, hx => exact ⟨e1, (Option.some.inj hx).symm, h1, by decide⟩
  | 2, hx => exact ⟨e2, (Option.some.inj hx).symm, h2, by decide⟩
  | 3, hx => exact ⟨e3, (Option.some.inj hx).symm, h3, by decide⟩
  | 4, hx => exact ⟨e4, (Option.some.inj hx).symm, h4, by decide⟩
  | 5, hx => exact ⟨e5, (Option.some.inj hx).symm, h5, by decide⟩
  | 6, hx => exact ⟨e6, (Option.some.inj hx).symm, h6, by decide⟩
  | 7, hx => exact ⟨e7, (Option.some.inj hx).symm, h7, by decide⟩
  | 8, hx => exact ⟨e8, (Option.some.inj hx).symm, h8, by decide⟩
  | 9, hx => exact ⟨e9, (Option.some.inj hx).symm, h9, by decide⟩
  | 10, hx => exact ⟨e10, (Option.some.inj hx).symm, h10, by decide⟩
  | 11, hx => exact ⟨e11, (Option.some.inj hx).symm, h11, by decide⟩
  | 12, hx => exact ⟨e12, (Option.some.inj hx).symm, h12, by decide⟩
  | 13, hx => exact ⟨e13, (Option.some.inj hx).symm, h13, by decide⟩
  | 14, hx => exact ⟨e14, (Option.some.inj hx).symm, h14, by decide⟩
  | n + 15, hx => simp at hx⟩
theorem tLast_of {C : Nat → Addr} {D : Ends} {x0 x1 x2 x3 x4 x5 x7 y8 y9 y10 y11 : Option V} {pM : Addr} {es : List V} {H : Hp} (ez : H pM = some (.lst es)) (mz : Made C H es)
    (h : ∀ (y8 y9 y10 y11 : Option V) (H' : Hp), Same H H' → D.nx [x0, x1, x2, x3, x4, x5, some (.ref pM), x7, y8, y9, y10, y11] H') : tLast C D [x0, x1, x2, x3, x4, x5, some (.ref pM), x7, y8, y9, y10, y11] H :=
  ⟨_, _, _, _, _, _, _, _, _, _, _, pM, es, rfl, ez, mz, h⟩
theorem two_fit {d2 d3 d4 : PyData} (f2 : Fit 3 70 d2) (f3 : Fit 3 70 d3) (g3 : Fit 4 90 (app7 d3)) (s3 : shortL d3 = true) (m : d4 ∈ [.list [d2], d3]) : Fit 4 150 d4 ∧ Fit 4 150 (app7 d4) ∧ shortL d4 = true := by
  simp only [List.mem_cons, List.not_mem_nil, or_false] at m
  rcases m with rfl | rfl
  · refine ⟨(Fit.lstAll (h := 3) (L := 70) (ds := [d2]) fun e he => ?_).mono (by decide) (Nat.le_of_ble_eq_true rfl), (Fit.lstAll (h := 3) (L := 70) (ds := [d2, .int 7]) fun e he => ?_).mono (by decide) (Nat.le_of_ble_eq_true rfl), rfl⟩
    · rw [List.mem_singleton.mp he]
      exact f2
    · simp only [List.mem_cons, List.not_mem_nil, or_false] at he
      rcases he with rfl | rfl
      · exact f2
      · exact (fit_int (i := 7) (by decide) (by decide)).mono (by decide) (by decide)
  · exact ⟨f3.mono (by decide) (by decide), g3.mono (by decide) (by decide), s3⟩
theorem deck_app {b q : Addr} {k : Nat} {H : Hp} {xs : List V} (h : DeckAt b k H) (e : H q = some (.lst xs)) (hl : xs.length ≤ 5) : DeckAt b k (upd H q (.lst (xs ++ [.int 7]))) := by
  obtain ⟨c, cs, t, g, eb, ec, h1, h2, h3⟩ := h
  have nb : b ≠ q := fun z => by
    rw [← z, eb] at e
    cases e
  by_cases z : c = q
  · subst z
    have z1 := (off_get ec).2
    rw [e] at z1
    have z2 : xs = cs.map V.int := by
      injection (Option.some.inj z1)
    subst z2
    refine ⟨c, cs ++ [7], t, g, by rw [upd_ne nb]; exact eb, off_put (off_get ec).1 (by rw [upd_same, List.map_append] <;> rfl), by simp, ?_, h3⟩
    rw [List.length_append]
    rw [List.length_map] at hl
    show cs.length + 1 ≤ 64
    omega
  · refine ⟨c, cs, t, g, by rw [upd_ne nb]; exact eb, off_put (off_get ec).1 ?_, h1, h2, h3⟩
    rw [upd_ne z]
    exact (off_get ec).2
section
variable {P : Program} {w : World} {K : PySem.W.Frag} {mg : Str → Option Value} {base : Heap}
set_option maxHeartbeats 8000000 in
theorem ok_law {f : Addr} {fd : FuncData} (F : Fun K "law" "law" slaw f fd) {C : Nat → Addr} {T : Addr} (tab : Tab K C T) (erF : ∀ i, i < 15 → ErF K (C i)) (g_TableError : mg "TableError" = some (.ref T))
    (M_BadFacts : ErMk K mg "BadFacts" (C 0) [("number" : Str), ("word" : Str)]) (no_0_number : PySem.W.findIn K (.ref (C 0)) "number" = some none) (no_0_word : PySem.W.findIn K (.ref (C 0)) "word" = some none)
    (M_BadFormula : ErMk K mg "BadFormula" (C 1) [("word" : Str)]) (no_1_word : PySem.W.findIn K (.ref (C 1)) "word" = some none)
    (M_BadSize : ErMk K mg "BadSize" (C 2) [("size" : Str)]) (no_2_size : PySem.W.findIn K (.ref (C 2)) "size" = some none)
    (M_BadText : ErMk K mg "BadText" (C 3) [("line" : Str), ("number" : Str)]) (no_3_line : PySem.W.findIn K (.ref (C 3)) "line" = some none) (no_3_number : PySem.W.findIn K (.ref (C 3)) "number" = some none)
    (M_NoTable : ErMk K mg "NoTable" (C 4) [("pair" : Str), ("numbers" : Str)]) (no_4_pair : PySem.W.findIn K (.ref (C 4)) "pair" = some none) (no_4_numbers : PySem.W.findIn K (.ref (C 4)) "numbers" = some none)
    (M_NotOnce : ErMk K mg "NotOnce" (C 5) [("name" : Str)]) (no_5_name : PySem.W.findIn K (.ref (C 5)) "name" = some none)
    (M_Taken : ErMk K mg "Taken" (C 6) [("name" : Str)]) (no_6_name : PySem.W.findIn K (.ref (C 6)) "name" = some none)
    (M_TooMany : ErMk K mg "TooMany" (C 7) [("limit" : Str)]) (no_7_limit : PySem.W.findIn K (.ref (C 7)) "limit" = some none)
    (M_UnlikeNames : ErMk K mg "UnlikeNames" (C 8) [("one" : Str), ("other" : Str)]) (no_8_one : PySem.W.findIn K (.ref (C 8)) "one" = some none) (no_8_other : PySem.W.findIn K (.ref (C 8)) "other" = some none)
    (M_Full : ErMk0 K mg "Full" (C 9))
    (M_NothingToUndo : ErMk0 K mg "NothingToUndo" (C 10))
    (M_TornGivens : ErMk K mg "TornGivens" (C 11) [("numbers" : Str)]) (no_11_numbers : PySem.W.findIn K (.ref (C 11)) "numbers" = some none)
    (M_NoClaim : ErMk K mg "NoClaim" (C 12) [("number" : Str)]) (no_12_number : PySem.W.findIn K (.ref (C 12)) "number" = some none)
    (M_NoEntry : ErMk K mg "NoEntry" (C 13) [("number" : Str)]) (no_13_number : PySem.W.findIn K (.ref (C 13)) "number" = some none)
    (M_NoPair : ErMk K mg "NoPair" (C 14) [("number" : Str)]) (no_14_number : PySem.W.findIn K (.ref (C 14)) "number" = some none)
    {t_CLAIMS t_EDITS t_ENTRIES t_FEW t_GIVEN t_LEAST t_LONG t_NAMES t_ROAD t_SHORT t_SIZE t_TABLE t_TRIES t_UNLIKE t_WORD : Tok} (g_MAX_CLAIMS : mg "MAX_CLAIMS" = some (.int 4 t_CLAIMS)) (g_MAX_EDITS : mg "MAX_EDITS" = some (.int 20 t_EDITS)) (g_MAX_ENTRIES : mg "MAX_ENTRIES" = some (.int 10 t_ENTRIES)) (g_MAX_FEW : mg "MAX_FEW" = some (.int 12 t_FEW)) (g_MAX_GIVEN : mg "MAX_GIVEN" = some (.int 3 t_GIVEN)) (g_MAX_LEAST : mg "MAX_LEAST" = some (.int 4 t_LEAST)) (g_MAX_LONG : mg "MAX_LONG" = some (.int 13 t_LONG)) (g_MAX_NAMES : mg "MAX_NAMES" = some (.int 8 t_NAMES)) (g_MAX_ROAD : mg "MAX_ROAD" = some (.int 40 t_ROAD)) (g_MAX_SHORT : mg "MAX_SHORT" = some (.int 5 t_SHORT)) (g_MAX_SIZE : mg "MAX_SIZE" = some (.int 15 t_SIZE)) (g_MAX_TABLE : mg "MAX_TABLE" = some (.int 60 t_TABLE)) (g_MAX_TRIES : mg "MAX_TRIES" = some (.int 20000 t_TRIES)) (g_MAX_UNLIKE : mg "MAX_UNLIKE" = some (.int 6 t_UNLIKE)) (g_MAX_WORD : mg "MAX_WORD" = some (.int 30 t_WORD))
    (hsys : ∃ o, base.get? sysModules = some o)
    (c__law_deck : CalG P w K mg base 1 "_law_deck" (spDeckD K)) (c__law_one : CalG P w K mg base 2 "_law_one" spPickD) (c__law_odd : CalG P w K mg base 3 "_law_odd" spOddD) (c__law_flags : CalG P w K mg base 1 "_law_flags" (spFlags C))
    (b_range : mg "range" = none) (b_repr : mg "repr" = none) (b_isinstance : mg "isinstance" = none) (b_list : mg "list" = none) (b_enumerate : mg "enumerate" = none) (b_ValueError : mg "ValueError" = none) (b_LookupError : mg "LookupError" = none) (b_KeyError : mg "KeyError" = none) (b_IndexError : mg "IndexError" = none) :
    FnG P w K mg base CX0 25 f fd ["_law_script"] (spLaw K) := by
  have sc := scLaw
  have r_TableError : RelV (.ref T) (.ref T) := rfl
  have r_MAX_CLAIMS : RelV (.int 4) (.int 4 t_CLAIMS) := ⟨t_CLAIMS, rfl⟩
  have r_MAX_EDITS : RelV (.int 20) (.int 20 t_EDITS) := ⟨t_EDITS, rfl⟩
  have r_MAX_ENTRIES : RelV (.int 10) (.int 10 t_ENTRIES) := ⟨t_ENTRIES, rfl⟩
  have r_MAX_FEW : RelV (.int 12) (.int 12 t_FEW) := ⟨t_FEW, rfl⟩
  have r_MAX_GIVEN : RelV (.int 3) (.int 3 t_GIVEN) := ⟨t_GIVEN, rfl⟩
  have r_MAX_LEAST : RelV (.int 4) (.int 4 t_LEAST) := ⟨t_LEAST, rfl⟩
  have r_MAX_LONG : RelV (.int 13) (.int 13 t_LONG) := ⟨t_LONG, rfl⟩
  have r_MAX_NAMES : RelV (.int 8) (.int 8 t_NAMES) := ⟨t_NAMES, rfl⟩
  have r_MAX_ROAD : RelV (.int 40) (.int 40 t_ROAD) := ⟨t_ROAD, rfl⟩
  have r_MAX_SHORT : RelV (.int 5) (.int 5 t_SHORT) := ⟨t_SHORT, rfl⟩
  have r_MAX_SIZE : RelV (.int 15) (.int 15 t_SIZE) := ⟨t_SIZE, rfl⟩
  have r_MAX_TABLE : RelV (.int 60) (.int 60 t_TABLE) := ⟨t_TABLE, rfl⟩
  have r_MAX_TRIES : RelV (.int 20000) (.int 20000 t_TRIES) := ⟨t_TRIES, rfl⟩
  have r_MAX_UNLIKE : RelV (.int 6) (.int 6 t_UNLIKE) := ⟨t_UNLIKE, rfl⟩
  have r_MAX_WORD : RelV (.int 30) (.int 30 t_WORD) := ⟨t_WORD, rfl⟩
  refine okG F sc (fun vs H Q E h => ?_) fun cdv A outer s H vs Q E gA hr h => ?_
  · obtain ⟨a, ns, rfl, _⟩ := h
    rfl
  obtain ⟨a, ns, rfl, hS, h63, q⟩ := h
  have hu : (A.deeper (PyProof.Rows.envOfC "law" (defScope slaw) s.heap.objs.size f cdv)).units + 150 < cLine := by
    have := hr.un
    omega
  have hu64 : (A.deeper (PyProof.Rows.envOfC "law" (defScope slaw) s.heap.objs.size f cdv)).units + 64 < cLine := by omega
  refine ⟨_, (pss_cons (ps_set (i := 1) sc.nd rfl (.inl rfl) (pe_cg c__law_deck gA hr (by omega) (by rfl) (pa_cons (pv 0) pa_nil)))
    (pss_cons (ps_set (i := 2) sc.nd rfl (.inl rfl) (pe_lst (pa_cons (pe_glob rfl g_MAX_CLAIMS r_MAX_CLAIMS) (pa_cons (pe_glob rfl g_MAX_EDITS r_MAX_EDITS) (pa_cons (pe_glob rfl g_MAX_ENTRIES r_MAX_ENTRIES) (pa_cons (pe_glob rfl g_MAX_FEW r_MAX_FEW) (pa_cons (pe_glob rfl g_MAX_GIVEN r_MAX_GIVEN) (pa_cons (pe_glob rfl g_MAX_LEAST r_MAX_LEAST) (pa_cons (pe_glob rfl g_MAX_LONG r_MAX_LONG) (pa_cons (pe_glob rfl g_MAX_NAMES r_MAX_NAMES) (pa_cons (pe_glob rfl g_MAX_ROAD r_MAX_ROAD) (pa_cons (pe_glob rfl g_MAX_SHORT r_MAX_SHORT) pa_nil))))))))))))
    (pss_cons (ps_set (i := 2) sc.nd rfl (.inl rfl) (pe_op op_cat (pv 2) (pe_lst (pa_cons (pe_glob rfl g_MAX_SIZE r_MAX_SIZE) (pa_cons (pe_glob rfl g_MAX_TABLE r_MAX_TABLE) (pa_cons (pe_glob rfl g_MAX_TRIES r_MAX_TRIES) (pa_cons (pe_glob rfl g_MAX_UNLIKE r_MAX_UNLIKE) (pa_cons (pe_glob rfl g_MAX_WORD r_MAX_WORD) pa_nil))))))))
    (pss_cons (ps_if (pt_cmpR op_ne (pe_callB (call_repr gA hu hsys) (by rfl) b_repr (by decide +kernel) (pa_cons (pv 2) pa_nil)) (pe_callB (call_repr gA hu hsys) (by rfl) b_repr (by decide +kernel) (pa_cons (pe_lit (ρ := []) (.lst (.cons .int (.cons .int (.cons .int (.cons .int (.cons .int (.cons .int (.cons .int (.cons .int (.cons .int (.cons .int (.cons .int (.cons .int (.cons .int (.cons .int (.cons .int .nil))))))))))))))) (Nat.le_of_ble_eq_true rfl))) pa_nil)) (nomark _)) (pss_one (ps_ret pe_bl)) pss_nil)
    (pss_cons (ps_for PassesOwn.never rfl (pi_range1 rfl b_range (pa_cons pe_int pa_nil)) (pg_name (i := 3) sc.nd rfl (.inl rfl)) (pss_cons (ps_par (i := 4) (j := 5) rfl sc.nd rfl rfl (by decide) rfl rfl (pa_cons (pe_cg c__law_odd gA hr (by omega) (by rfl) (pa_cons (pv 1) pa_nil)) (pa_cons (pe_cg c__law_one gA hr (by omega) (by rfl) (pa_cons (pv 1) (pa_cons (pe_lst (pa_cons (pe_lst (pa_cons (pe_cg c__law_odd gA hr (by omega) (by rfl) (pa_cons (pv 1) pa_nil)) pa_nil)) (pa_cons (pe_cg c__law_odd gA hr (by omega) (by rfl) (pa_cons (pv 1) pa_nil)) pa_nil))) pa_nil))) pa_nil)) (by rfl))
    (pss_cons (ps_set (i := 6) sc.nd rfl (.inl rfl) (pe_lst (pa_cons (pe_mkE M_BadFacts hr (pa_cons (pv 4) (pa_cons (pv 5) pa_nil)) (by rfl)) (pa_cons (pe_mkE M_BadFormula hr (pa_cons (pv 5) pa_nil) (by rfl)) (pa_cons (pe_mkE M_BadSize hr (pa_cons (pv 5) pa_nil) (by rfl)) (pa_cons (pe_mkE M_BadText hr (pa_cons (pv 4) (pa_cons (pv 5) pa_nil)) (by rfl)) (pa_cons (pe_mkE M_NoTable hr (pa_cons (pv 4) (pa_cons (pv 5) pa_nil)) (by rfl)) (pa_cons (pe_mkE M_NotOnce hr (pa_cons (pv 5) pa_nil) (by rfl)) pa_nil))))))))
    (pss_cons (ps_set (i := 6) sc.nd rfl (.inl rfl) (pe_op op_cat (pv 6) (pe_lst (pa_cons (pe_mkE M_Taken hr (pa_cons (pv 5) pa_nil) (by rfl)) (pa_cons (pe_mkE M_TooMany hr (pa_cons (pv 5) pa_nil) (by rfl)) (pa_cons (pe_mkE M_UnlikeNames hr (pa_cons (pv 4) (pa_cons (pv 5) pa_nil)) (by rfl)) (pa_cons (pe_mkE0 M_Full (by rfl)) (pa_cons (pe_mkE0 M_NothingToUndo (by rfl)) (pa_cons (pe_mkE M_TornGivens hr (pa_cons (pv 5) pa_nil) (by rfl)) pa_nil)))))))))
    (pss_cons (ps_set (i := 6) sc.nd rfl (.inl rfl) (pe_op op_cat (pv 6) (pe_lst (pa_cons (pe_mkE M_NoClaim hr (pa_cons (pv 5) pa_nil) (by rfl)) (pa_cons (pe_mkE M_NoEntry hr (pa_cons (pv 5) pa_nil) (by rfl)) (pa_cons (pe_mkE M_NoPair hr (pa_cons (pv 5) pa_nil) (by rfl)) pa_nil))))))
    (pss_cons (ps_set (i := 7) sc.nd rfl (.inl rfl) (pe_lst (pa_cons (pe_fldE (pe_ix ix_list (pv 6) pe_int (fun _ _ => rfl))) (pa_cons (pe_fldE (pe_ix ix_list (pv 6) pe_int (fun _ _ => rfl))) (pa_cons (pe_fldE (pe_ix ix_list (pv 6) pe_int (fun _ _ => rfl))) (pa_cons (pe_fldE (pe_ix ix_list (pv 6) pe_int (fun _ _ => rfl))) (pa_cons (pe_fldE (pe_ix ix_list (pv 6) pe_int (fun _ _ => rfl))) (pa_cons (pe_fldE (pe_ix ix_list (pv 6) pe_int (fun _ _ => rfl))) (pa_cons (pe_fldE (pe_ix ix_list (pv 6) pe_int (fun _ _ => rfl))) pa_nil)))))))))
    (pss_cons (ps_set (i := 7) sc.nd rfl (.inl rfl) (pe_op op_cat (pv 7) (pe_lst (pa_cons (pe_fldE (pe_ix ix_list (pv 6) pe_int (fun _ _ => rfl))) (pa_cons (pe_fldE (pe_ix ix_list (pv 6) pe_int (fun _ _ => rfl))) (pa_cons (pe_fldE (pe_ix ix_list (pv 6) pe_int (fun _ _ => rfl))) (pa_cons (pe_fldE (pe_ix ix_list (pv 6) pe_int (fun _ _ => rfl))) (pa_cons (pe_fldE (pe_ix ix_list (pv 6) pe_int (fun _ _ => rfl))) pa_nil))))))))
    (pss_cons (ps_expr (pe_bm PySem.F.plainAttrs_list PySem.F.slot_list_append PySem.F.type_list_append mt_append (pv 7) (pa_cons (pe_fldE (pe_ix ix_list (pv 6) pe_int (fun _ _ => rfl))) pa_nil)))
    (pss_cons (ps_if (pt_cmpR op_ne (pe_callB (call_repr gA hu hsys) (by rfl) b_repr (by decide +kernel) (pa_cons (pv 7) pa_nil)) (pe_callB (call_repr gA hu hsys) (by rfl) b_repr (by decide +kernel) (pa_cons (pe_op op_rep (pe_lst (pa_cons (pv 5) pa_nil)) pe_int) pa_nil)) (nomark _)) (pss_one (ps_ret pe_bl)) pss_nil)
    (pss_cons (ps_if (pt_cmpR op_ne (pe_callB (call_repr gA hu hsys) (by rfl) b_repr (by decide +kernel) (pa_cons (pe_lst (pa_cons (pe_fldE (pe_ix ix_list (pv 6) pe_int (fun _ _ => rfl))) (pa_cons (pe_fldE (pe_ix ix_list (pv 6) pe_int (fun _ _ => rfl))) (pa_cons (pe_fldE (pe_ix ix_list (pv 6) pe_int (fun _ _ => rfl))) (pa_cons (pe_fldE (pe_ix ix_list (pv 6) pe_int (fun _ _ => rfl))) pa_nil))))) pa_nil)) (pe_callB (call_repr gA hu hsys) (by rfl) b_repr (by decide +kernel) (pa_cons (pe_op op_rep (pe_lst (pa_cons (pv 4) pa_nil)) pe_int) pa_nil)) (nomark _)) (pss_one (ps_ret pe_bl)) pss_nil)
    (pss_cons (ps_if (pt_val (pe_callB (call_isD) (by rfl) b_isinstance (by decide +kernel) (pa_cons (pv 5) (pa_cons (pe_bltn (v := .ty "list") (by rfl) b_list (by decide +kernel) rfl) pa_nil)))) (pss_cons (ps_expr (pe_bm PySem.F.plainAttrs_list PySem.F.slot_list_append PySem.F.type_list_append mt_append (pv 5) (pa_cons pe_int pa_nil)))
    (pss_one (ps_if (pt_cmpR op_ne (pe_callB (call_repr gA hu hsys) (by rfl) b_repr (by decide +kernel) (pa_cons (pe_lst (pa_cons (pe_fldE (pe_ix ix_list (pv 6) pe_int (fun _ _ => rfl))) (pa_cons (pe_fldE (pe_ix ix_list (pv 6) pe_int (fun _ _ => rfl))) (pa_cons (pe_fldE (pe_ix ix_list (pv 6) pe_int (fun _ _ => rfl))) pa_nil)))) pa_nil)) (pe_callB (call_repr gA hu hsys) (by rfl) b_repr (by decide +kernel) (pa_cons (pe_op op_rep (pe_lst (pa_cons (pv 5) pa_nil)) pe_int) pa_nil)) (nomark _)) (pss_one (ps_ret pe_bl)) pss_nil))) pss_nil)
    (pss_one (PS.imp (t' := tLast C) (ps_for PassesOwn.never rfl (pi_enum (by rfl) b_enumerate (pa_cons (pv 6) pa_nil)) (pg_tup rfl (pgs_cons (pg_name (i := 8) sc.nd rfl (.inr rfl)) (pgs_cons (pg_name (i := 9) sc.nd rfl (.inl rfl)) pgs_nil))) (pss_cons (ps_set (i := 10) sc.nd rfl (.inl rfl) (pe_lst (pa_cons (pe_callB (call_isV) (by rfl) b_isinstance (by decide +kernel) (pa_cons (pv 9) (pa_cons (pe_glob rfl g_TableError r_TableError) pa_nil))) (pa_cons (pe_callB (call_isV) (by rfl) b_isinstance (by decide +kernel) (pa_cons (pv 9) (pa_cons (pe_bltn (v := .ty "ValueError") (by rfl) b_ValueError (by decide +kernel) rfl) pa_nil))) (pa_cons (pe_callB (call_isV) (by rfl) b_isinstance (by decide +kernel) (pa_cons (pv 9) (pa_cons (pe_bltn (v := .ty "LookupError") (by rfl) b_LookupError (by decide +kernel) rfl) pa_nil))) pa_nil)))))
    (pss_cons (ps_if (pt_cmpR (op_neD hu64) (pe_cg c__law_flags gA hr (by omega) (by rfl) (pa_cons (pv 9) pa_nil)) (pe_lc (own := [("_law_place", 11)]) (g := gName 11) (tt := tYes) (te := tOp rEq (tVar 11) (tVar 8)) rfl sc.nd (pi_range1 rfl b_range (pa_cons pe_int pa_nil)) (blkOk_by (N := lawN) (sc := defScope slaw) (by decide +kernel)) (fun _ _ _ _ _ => pg_name (i := 11) sc.nd rfl (Or.inl rfl)) (fun _ _ _ _ _ => pts_nil) (fun _ _ _ _ _ => (pe_cmpR op_eq (pv 11) (pv 8) (nomark _)))) (nomark _)) (pss_one (ps_ret pe_bl)) pss_nil)
    (pss_cons (ps_if (pt_cmpR (op_neD hu64) (pv 10) (pe_ifExp (pt_cmpR op_lt (pv 8) pe_int (nomark _)) (pe_lit (ρ := []) (.lst (.cons .bl (.cons .bl (.cons .bl .nil))) (Nat.le_of_ble_eq_true rfl))) (pe_lit (ρ := []) (.lst (.cons .bl (.cons .bl (.cons .bl .nil))) (Nat.le_of_ble_eq_true rfl)))) (nomark _)) (pss_one (ps_ret pe_bl)) pss_nil)
    (pss_one (ps_if (PW.pt (pw_or (pt_val (pe_callB (call_isV) (by rfl) b_isinstance (by decide +kernel) (pa_cons (pv 9) (pa_cons (pe_bltn (v := .ty "KeyError") (by rfl) b_KeyError (by decide +kernel) rfl) pa_nil)))) (pw_or1 (pt_val (pe_callB (call_isV) (by rfl) b_isinstance (by decide +kernel) (pa_cons (pv 9) (pa_cons (pe_bltn (v := .ty "IndexError") (by rfl) b_IndexError (by decide +kernel) rfl) pa_nil))))))) (pss_one (ps_ret pe_bl)) pss_nil)))))) ?last)))))))))))))
    (pss_one (ps_ret pe_bl))))))), ?goal⟩
  case goal =>
    refine ⟨_, rfl, a, ns, rfl, hS, h63, fun b H1 s1 b1 => ?_⟩
    refine ⟨(by show 10 ≤ sizeLine; decide), fun p1 n1 => ?_⟩
    have e1 : (upd H1 p1 (.lst [.int 4, .int 20, .int 10, .int 12, .int 3, .int 4, .int 13, .int 8, .int 40, .int 5])) p1 = some (.lst [.int 4, .int 20, .int 10, .int 12, .int 3, .int 4, .int 13, .int 8, .int 40, .int 5]) := upd_same
    have b2 := b1.same (same_new (o := .lst [.int 4, .int 20, .int 10, .int 12, .int 3, .int 4, .int 13, .int 8, .int 40, .int 5]) n1)
    generalize upd H1 p1 (.lst [.int 4, .int 20, .int 10, .int 12, .int 3, .int 4, .int 13, .int 8, .int 40, .int 5]) = G1 at e1 b2
    clear s1 b1 n1
    refine ⟨_, rfl, (by show 5 ≤ sizeLine; decide), fun m1 nm1 => ?_⟩
    refine ⟨p1, m1, _, _, rfl, rfl, same_new nm1 _ _ e1, upd_same, (by show 10 + 5 ≤ sizeLine; decide), fun p2 n2 => ?_⟩
    have b3 := (b2.same (same_new (o := .lst [.int 15, .int 60, .int 20000, .int 6, .int 30]) nm1)).same (same_new (o := .lst ([.int 4, .int 20, .int 10, .int 12, .int 3, .int 4, .int 13, .int 8, .int 40, .int 5] ++ [.int 15, .int 60, .int 20000, .int 6, .int 30])) n2)
    have e2 : (upd (upd G1 m1 (.lst [.int 15, .int 60, .int 20000, .int 6, .int 30])) p2 (.lst ([.int 4, .int 20, .int 10, .int 12, .int 3, .int 4, .int 13, .int 8, .int 40, .int 5] ++ [.int 15, .int 60, .int 20000, .int 6, .int 30]))) p2 = some (.lst [.int 4, .int 20, .int 10, .int 12, .int 3, .int 4, .int 13, .int 8, .int 40, .int 5, .int 15, .int 60, .int 20000, .int 6, .int 30]) := upd_same
    generalize upd (upd G1 m1 (.lst [.int 15, .int 60, .int 20000, .int 6, .int 30])) p2 (.lst ([.int 4, .int 20, .int 10, .int 12, .int 3, .int 4, .int 13, .int 8, .int 40, .int 5] ++ [.int 15, .int 60, .int 20000, .int 6, .int 30])) = G2 at b3 e2
    clear n2 nm1 b2 e1
    have R := bounds_fit
    refine ⟨_, rfl, .ref p2, boundsD, rfl, .lst e2 (.cons (.int _) (.cons (.int _) (.cons (.int _) (.cons (.int _) (.cons (.int _) (.cons (.int _) (.cons (.int _) (.cons (.int _) (.cons (.int _) (.cons (.int _) (.cons (.int _) (.cons (.int _) (.cons (.int _) (.cons (.int _) (.cons (.int _) .nil))))))))))))))), R.sh, R.dp, R.ln, G2, Same.refl _, (fun _ z => nomatch z), fun v3 H3 s3 d3 => ?_⟩
    refine ⟨v3, boundsD, rfl, d3.same (plus_in (Same.refl _) s3), R.sh, R.dp, R.ln, rfl, _, rfl, ?_⟩
    rw [decide_eq_true rfl]
    refine iteF ?_
    have b4 := b3.same s3
    clear b3 e2 R d3 s3
    refine ⟨8, rfl, by decide, by decide, for_range (n := 8) (fun i σ Hx => (∃ y3 y4 y5 y6 y7 y8 y9 y10 y11, σ = [some (.ref a), some (.ref b), some (.ref p2), y3, y4, y5, y6, y7, y8, y9, y10, y11]) ∧ DeckAt b (4 * i) Hx)
      ⟨⟨_, _, _, _, _, _, _, _, _, rfl⟩, b4⟩ (fun i σ Hx hi hp => ?_) (fun σ Hx hp => ?_)⟩
    rotate_left
    · obtain ⟨⟨y3, y4, y5, y6, y7, y8, y9, y10, y11, rfl⟩, bx⟩ := hp
      exact q _
    obtain ⟨⟨y3, y4, y5, y6, y7, y8, y9, y10, y11, rfl⟩, bx⟩ := hp
    refine ⟨_, rfl, b, 4 * i, rfl, bx, by omega, fun r1 d1 Ha ka ba ha fa ga la => ?_⟩
    refine ⟨_, rfl, _, rfl, b, _, rfl, ba, by omega, fun r2 d2 Hb kb bb hb fb gb lb => ?_⟩
    refine ⟨(by show 1 ≤ sizeLine; decide), fun q1 nq1 => ?_⟩
    have tq1 := Keep.of (b := b) (same_new (o := .lst [r2]) nq1)
    have bq1 := bb.same (same_new (o := .lst [r2]) nq1)
    have dq1 : Da (off b (upd Hb q1 (.lst [r2]))) (.ref q1) (.list [d2]) := .lst (off_newO bb.there nq1) (.cons (hb.same tq1) .nil)
    have h1 := (ha.same kb).same tq1
    generalize upd Hb q1 (.lst [r2]) = Hc at bq1 dq1 h1
    refine ⟨_, rfl, b, _, rfl, bq1, by omega, fun r3 d3 Hd kd bd hd fd_ gd ld => ?_⟩
    refine ⟨(by show 2 ≤ sizeLine; decide), fun q2 nq2 => ?_⟩
    have tq2 := Keep.of (b := b) (same_new (o := .lst [.ref q1, r3]) nq2)
    have bq2 := bd.same (same_new (o := .lst [.ref q1, r3]) nq2)
    have dq2 : Da (off b (upd Hd q2 (.lst [.ref q1, r3]))) (.ref q2) (.list [.list [d2], d3]) := .lst (off_newO bd.there nq2) (.cons ((dq1.same kd).same tq2) (.cons (hd.same tq2) .nil))
    have h2 := (h1.same kd).same tq2
    generalize upd Hd q2 (.lst [.ref q1, r3]) = He at bq2 dq2 h2
    refine ⟨b, .ref q2, _, _, rfl, bq2, by omega, dq2, (by simp), Nat.le_of_ble_eq_true rfl, fun r4 d4 Hf kf bf m4 h4 => ⟨_, _, rfl, ?_⟩⟩
    have F4 := two_fit fb fd_ gd ld m4
    have dr1 := (h2.same kf).same off_same
    have dr4 := h4.same off_same
    have bf4 : DeckAt b (4 * (i + 1)) Hf := bf
    clear h1 h2 h4 ha hb hd ka kb kd kf tq1 tq2 bq1 bq2 dq1 dq2 ba bb bd bx nq1 nq2 bf m4 fb fd_ gd ld gb lb ga la
    refine ⟨_, rfl, _, rfl, rfl, fun e0 G0 s0 n0 a0 => ?_⟩
    refine ⟨_, rfl, rfl, fun e1 G1 s1 n1 a1 => ?_⟩
    refine ⟨_, rfl, rfl, fun e2 G2 s2 n2 a2 => ?_⟩
    refine ⟨_, rfl, _, rfl, rfl, fun e3 G3 s3 n3 a3 => ?_⟩
    refine ⟨_, rfl, _, rfl, rfl, fun e4 G4 s4 n4 a4 => ?_⟩
    refine ⟨_, rfl, rfl, fun e5 G5 s5 n5 a5 => ?_⟩
    refine ⟨(by show 6 ≤ sizeLine; decide), fun pA nA => ?_⟩
    have uA := same_new (o := .lst [.ref e0, .ref e1, .ref e2, .ref e3, .ref e4, .ref e5]) nA
    have eA : (upd G5 pA (.lst [.ref e0, .ref e1, .ref e2, .ref e3, .ref e4, .ref e5])) pA = some (.lst [.ref e0, .ref e1, .ref e2, .ref e3, .ref e4, .ref e5]) := upd_same
    generalize upd G5 pA (.lst [.ref e0, .ref e1, .ref e2, .ref e3, .ref e4, .ref e5]) = GA at uA eA
    refine ⟨_, rfl, ?_⟩
    refine ⟨_, rfl, rfl, fun e6 G6 s6 n6 a6 => ?_⟩
    refine ⟨_, rfl, rfl, fun e7 G7 s7 n7 a7 => ?_⟩
    refine ⟨_, rfl, _, rfl, rfl, fun e8 G8 s8 n8 a8 => ?_⟩
    refine fun e9 G9 s9 n9 a9 => ?_
    refine fun e10 G10 s10 n10 a10 => ?_
    refine ⟨_, rfl, rfl, fun e11 G11 s11 n11 a11 => ?_⟩
    refine ⟨(by show 6 ≤ sizeLine; decide), fun mA nmA => ?_⟩
    refine ⟨pA, mA, _, _, rfl, rfl, same_new nmA _ _ (s11 _ _ (s10 _ _ (s9 _ _ (s8 _ _ (s7 _ _ (s6 _ _ eA)))))), upd_same, (by show 6 + 6 ≤ sizeLine; decide), fun pB nB => ?_⟩
    have uB := (same_new (o := .lst [.ref e6, .ref e7, .ref e8, .ref e9, .ref e10, .ref e11]) nmA).trans (same_new (o := .lst ([.ref e0, .ref e1, .ref e2, .ref e3, .ref e4, .ref e5] ++ [.ref e6, .ref e7, .ref e8, .ref e9, .ref e10, .ref e11])) nB)
    have eB : (upd (upd G11 mA (.lst [.ref e6, .ref e7, .ref e8, .ref e9, .ref e10, .ref e11])) pB (.lst ([.ref e0, .ref e1, .ref e2, .ref e3, .ref e4, .ref e5] ++ [.ref e6, .ref e7, .ref e8, .ref e9, .ref e10, .ref e11]))) pB = some (.lst [.ref e0, .ref e1, .ref e2, .ref e3, .ref e4, .ref e5, .ref e6, .ref e7, .ref e8, .ref e9, .ref e10, .ref e11]) := upd_same
    generalize upd (upd G11 mA (.lst [.ref e6, .ref e7, .ref e8, .ref e9, .ref e10, .ref e11])) pB (.lst ([.ref e0, .ref e1, .ref e2, .ref e3, .ref e4, .ref e5] ++ [.ref e6, .ref e7, .ref e8, .ref e9, .ref e10, .ref e11])) = GB at uB eB
    refine ⟨_, rfl, ?_⟩
    refine ⟨_, rfl, rfl, fun e12 G12 s12 n12 a12 => ?_⟩
    refine ⟨_, rfl, rfl, fun e13 G13 s13 n13 a13 => ?_⟩
    refine ⟨_, rfl, rfl, fun e14 G14 s14 n14 a14 => ?_⟩
    refine ⟨(by show 3 ≤ sizeLine; decide), fun mB nmB => ?_⟩
    refine ⟨pB, mB, _, _, rfl, rfl, same_new nmB _ _ (s14 _ _ (s13 _ _ (s12 _ _ eB))), upd_same, (by show 12 + 3 ≤ sizeLine; decide), fun pM nM => ?_⟩
    have T14 := (same_new (o := .lst [.ref e12, .ref e13, .ref e14]) nmB).trans (same_new (o := .lst ([.ref e0, .ref e1, .ref e2, .ref e3, .ref e4, .ref e5, .ref e6, .ref e7, .ref e8, .ref e9, .ref e10, .ref e11] ++ [.ref e12, .ref e13, .ref e14])) nM)
    have eM : (upd (upd G14 mB (.lst [.ref e12, .ref e13, .ref e14])) pM (.lst ([.ref e0, .ref e1, .ref e2, .ref e3, .ref e4, .ref e5, .ref e6, .ref e7, .ref e8, .ref e9, .ref e10, .ref e11] ++ [.ref e12, .ref e13, .ref e14]))) pM = some (.lst [.ref e0, .ref e1, .ref e2, .ref e3, .ref e4, .ref e5, .ref e6, .ref e7, .ref e8, .ref e9, .ref e10, .ref e11, .ref e12, .ref e13, .ref e14]) := upd_same
    generalize upd (upd G14 mB (.lst [.ref e12, .ref e13, .ref e14])) pM (.lst ([.ref e0, .ref e1, .ref e2, .ref e3, .ref e4, .ref e5, .ref e6, .ref e7, .ref e8, .ref e9, .ref e10, .ref e11] ++ [.ref e12, .ref e13, .ref e14])) = GM at T14 eM
    have T13 := s14.trans T14
    have T12 := s13.trans T13
    have T11 := uB.trans (s12.trans T12)
    have T10 := s11.trans T11
    have T9 := s10.trans T10
    have T8 := s9.trans T9
    have T7 := s8.trans T8
    have T6 := s7.trans T7
    have T5 := uA.trans (s6.trans T6)
    have T4 := s5.trans T5
    have T3 := s4.trans T4
    have T2 := s3.trans T3
    have T1 := s2.trans T2
    have T0 := s1.trans T1
    have TF := s0.trans T0
    have A0 := a0.same T0
    have A1 := a1.same T1
    have A2 := a2.same T2
    have A3 := a3.same T3
    have A4 := a4.same T4
    have A5 := a5.same T5
    have A6 := a6.same T6
    have A7 := a7.same T7
    have A8 := a8.same T8
    have A9 := a9.same T9
    have A10 := a10.same T10
    have A11 := a11.same T11
    have A12 := a12.same T12
    have A13 := a13.same T13
    have A14 := a14.same T14
    clear a0 T0 s0 n0 a1 T1 s1 n1 a2 T2 s2 n2 a3 T3 s3 n3 a4 T4 s4 n4 a5 T5 s5 n5 a6 T6 s6 n6 a7 T7 s7 n7 a8 T8 s8 n8 a9 T9 s9 n9 a10 T10 s10 n10 a11 T11 s11 n11 a12 T12 s12 n12 a13 T13 s13 n13 a14 T14 s14 n14 uA uB nA nB nM nmA nmB eA eB
    have bM := bf4.same TF
    have d1M := dr1.same TF
    have d4M := dr4.same TF
    clear dr1 dr4 bf4 TF
    have made : Made C GM [.ref e0, .ref e1, .ref e2, .ref e3, .ref e4, .ref e5, .ref e6, .ref e7, .ref e8, .ref e9, .ref e10, .ref e11, .ref e12, .ref e13, .ref e14] := made15 (.inl ⟨_, A0⟩) (.inl ⟨_, A1⟩) (.inl ⟨_, A2⟩) (.inl ⟨_, A3⟩) (.inl ⟨_, A4⟩) (.inl ⟨_, A5⟩) (.inl ⟨_, A6⟩) (.inl ⟨_, A7⟩) (.inl ⟨_, A8⟩) (.inr A9) (.inr A10) (.inl ⟨_, A11⟩) (.inl ⟨_, A12⟩) (.inl ⟨_, A13⟩) (.inl ⟨_, A14⟩)
    refine ⟨_, rfl, pM, _, 0, .ref e0, rfl, rfl, SqL.of eM, atI_nat (j := 0) rfl, e0, C 0, _, r4, rfl, A0, fldB, erF 0 (by decide), no_0_word,
      _, rfl, pM, _, 1, .ref e1, rfl, rfl, SqL.of eM, atI_nat (j := 1) rfl, e1, C 1, _, r4, rfl, A1, fld1, erF 1 (by decide), no_1_word,
      _, rfl, pM, _, 2, .ref e2, rfl, rfl, SqL.of eM, atI_nat (j := 2) rfl, e2, C 2, _, r4, rfl, A2, fld1, erF 2 (by decide), no_2_size,
      _, rfl, pM, _, 3, .ref e3, rfl, rfl, SqL.of eM, atI_nat (j := 3) rfl, e3, C 3, _, r4, rfl, A3, fldB, erF 3 (by decide), no_3_number,
      _, rfl, pM, _, 4, .ref e4, rfl, rfl, SqL.of eM, atI_nat (j := 4) rfl, e4, C 4, _, r4, rfl, A4, fldB, erF 4 (by decide), no_4_numbers,
      _, rfl, pM, _, 5, .ref e5, rfl, rfl, SqL.of eM, atI_nat (j := 5) rfl, e5, C 5, _, r4, rfl, A5, fld1, erF 5 (by decide), no_5_name,
      _, rfl, pM, _, 6, .ref e6, rfl, rfl, SqL.of eM, atI_nat (j := 6) rfl, e6, C 6, _, r4, rfl, A6, fld1, erF 6 (by decide), no_6_name, (by show 7 ≤ sizeLine; decide), fun k1 nk1 => ?_⟩
    have u1 := same_new (o := .lst [r4, r4, r4, r4, r4, r4, r4]) nk1
    have ek1 : (upd GM k1 (.lst [r4, r4, r4, r4, r4, r4, r4])) k1 = some (.lst [r4, r4, r4, r4, r4, r4, r4]) := upd_same
    generalize upd GM k1 (.lst [r4, r4, r4, r4, r4, r4, r4]) = GK at u1 ek1
    refine ⟨_, rfl, _, rfl, pM, _, 7, .ref e7, rfl, rfl, SqL.of (u1 _ _ eM), atI_nat (j := 7) rfl, e7, C 7, _, r4, rfl, (A7.same u1), fld1, erF 7 (by decide), no_7_limit,
      _, rfl, pM, _, 8, .ref e8, rfl, rfl, SqL.of (u1 _ _ eM), atI_nat (j := 8) rfl, e8, C 8, _, r4, rfl, (A8.same u1), fldB, erF 8 (by decide), no_8_other,
      _, rfl, pM, _, 11, .ref e11, rfl, rfl, SqL.of (u1 _ _ eM), atI_nat (j := 11) rfl, e11, C 11, _, r4, rfl, (A11.same u1), fld1, erF 11 (by decide), no_11_numbers,
      _, rfl, pM, _, 12, .ref e12, rfl, rfl, SqL.of (u1 _ _ eM), atI_nat (j := 12) rfl, e12, C 12, _, r4, rfl, (A12.same u1), fld1, erF 12 (by decide), no_12_number,
      _, rfl, pM, _, 13, .ref e13, rfl, rfl, SqL.of (u1 _ _ eM), atI_nat (j := 13) rfl, e13, C 13, _, r4, rfl, (A13.same u1), fld1, erF 13 (by decide), no_13_number, (by show 5 ≤ sizeLine; decide), fun mk nmk => ?_⟩
    refine ⟨k1, mk, _, _, rfl, rfl, same_new nmk _ _ ek1, upd_same, (by show 7 + 5 ≤ sizeLine; decide), fun k2 nk2 => ?_⟩
    have u2 := (u1.trans (same_new (o := .lst [r4, r4, r4, r4, r4]) nmk)).trans (same_new (o := .lst ([r4, r4, r4, r4, r4, r4, r4] ++ [r4, r4, r4, r4, r4])) nk2)
    have f2 : GM k2 = none := (u1.trans (same_new (o := .lst [r4, r4, r4, r4, r4]) nmk)).free nk2
    have ek2 : (upd (upd GK mk (.lst [r4, r4, r4, r4, r4])) k2 (.lst ([r4, r4, r4, r4, r4, r4, r4] ++ [r4, r4, r4, r4, r4]))) k2 = some (.lst [r4, r4, r4, r4, r4, r4, r4, r4, r4, r4, r4, r4]) := upd_same
    generalize upd (upd GK mk (.lst [r4, r4, r4, r4, r4])) k2 (.lst ([r4, r4, r4, r4, r4, r4, r4] ++ [r4, r4, r4, r4, r4])) = GL at u2 ek2
    clear u1 ek1 nk1 nmk nk2
    refine ⟨_, rfl, .inl ⟨rfl, _, SqL.of ek2⟩, _, rfl, pM, _, 14, .ref e14, rfl, rfl, SqL.of (u2 _ _ eM), atI_nat (j := 14) rfl, e14, C 14, _, r4, rfl, (A14.same u2), fld1, erF 14 (by decide), no_14_number, k2, _, _, rfl, rfl, ek2, (by show 12 < sizeLine; decide), ?_⟩
    have u3 : Same GM (upd GL k2 (.lst ([r4, r4, r4, r4, r4, r4, r4, r4, r4, r4, r4, r4] ++ [r4]))) := fun z o e => by
      rw [upd_ne (ne_of_none e f2)]
      exact u2 _ _ e
    have ek3 : (upd GL k2 (.lst ([r4, r4, r4, r4, r4, r4, r4, r4, r4, r4, r4, r4] ++ [r4]))) k2 = some (.lst (List.replicate 13 r4)) := upd_same
    generalize upd GL k2 (.lst ([r4, r4, r4, r4, r4, r4, r4, r4, r4, r4, r4, r4] ++ [r4])) = GN at u3 ek3
    clear u2 ek2 f2
    have R13 := rp_rep (n := 13) F4.1 (by decide) (by decide) (by decide)
    have d4N := d4M.same u3
    refine ⟨_, rfl, .ref k2, _, rfl, .lst ek3 (da_rep d4N 13), R13.sh, R13.dp, R13.ln, ?_⟩
    refine ⟨_, rfl, (by show 1 ≤ sizeLine; decide), fun l1 nl1 => ?_⟩
    refine ⟨l1, 13, _, rfl, rfl, upd_same, by decide, by decide, (by show 1 * 13 ≤ sizeLine; decide), fun l2 nl2 => ?_⟩
    have u4 := (u3.trans (same_new (o := .lst [r4]) nl1)).trans (same_new (o := .lst (List.replicate (13 : Int).toNat [r4]).flatten) nl2)
    have el2 : (upd (upd GN l1 (.lst [r4])) l2 (.lst (List.replicate (13 : Int).toNat [r4]).flatten)) l2 = some (.lst (List.replicate 13 r4)) := upd_same
    generalize upd (upd GN l1 (.lst [r4])) l2 (.lst (List.replicate (13 : Int).toNat [r4]).flatten) = GP at u4 el2
    refine ⟨.ref l2, _, rfl, .lst el2 (da_rep (d4M.same u4) 13), R13.sh, R13.dp, R13.ln, rfl, _, rfl, ?_⟩
    rw [decide_eq_true rfl]
    refine iteF ?_
    clear u3 ek3 el2 nl1 nl2 d4N
    -- the firsts
    refine ⟨_, rfl, pM, _, 0, .ref e0, rfl, rfl, SqL.of (u4 _ _ eM), atI_nat (j := 0) rfl, e0, C 0, _, r1, rfl, (A0.same u4), (fldA (by decide)), erF 0 (by decide), no_0_number,
      _, rfl, pM, _, 3, .ref e3, rfl, rfl, SqL.of (u4 _ _ eM), atI_nat (j := 3) rfl, e3, C 3, _, r1, rfl, (A3.same u4), (fldA (by decide)), erF 3 (by decide), no_3_line,
      _, rfl, pM, _, 4, .ref e4, rfl, rfl, SqL.of (u4 _ _ eM), atI_nat (j := 4) rfl, e4, C 4, _, r1, rfl, (A4.same u4), (fldA (by decide)), erF 4 (by decide), no_4_pair,
      _, rfl, pM, _, 8, .ref e8, rfl, rfl, SqL.of (u4 _ _ eM), atI_nat (j := 8) rfl, e8, C 8, _, r1, rfl, (A8.same u4), (fldA (by decide)), erF 8 (by decide), no_8_one, (by show 4 ≤ sizeLine; decide), fun k3 nk3 => ?_⟩
    have R4 := rp_rep (n := 4) fa (by decide) (by decide) (by decide)
    have u5 := u4.trans (same_new (o := .lst [r1, r1, r1, r1]) nk3)
    have ek3 : (upd GP k3 (.lst [r1, r1, r1, r1])) k3 = some (.lst (List.replicate 4 r1)) := upd_same
    generalize upd GP k3 (.lst [r1, r1, r1, r1]) = GQ at u5 ek3
    refine ⟨.ref k3, _, rfl, .lst ek3 (da_rep (d1M.same u5) 4), R4.sh, R4.dp, R4.ln, ?_⟩
    refine ⟨_, rfl, (by show 1 ≤ sizeLine; decide), fun l3 nl3 => ?_⟩
    refine ⟨l3, 4, _, rfl, rfl, upd_same, by decide, by decide, (by show 1 * 4 ≤ sizeLine; decide), fun l4 nl4 => ?_⟩
    have u6 := (u5.trans (same_new (o := .lst [r1]) nl3)).trans (same_new (o := .lst (List.replicate (4 : Int).toNat [r1]).flatten) nl4)
    have el4 : (upd (upd GQ l3 (.lst [r1])) l4 (.lst (List.replicate (4 : Int).toNat [r1]).flatten)) l4 = some (.lst (List.replicate 4 r1)) := upd_same
    generalize upd (upd GQ l3 (.lst [r1])) l4 (.lst (List.replicate (4 : Int).toNat [r1]).flatten) = GR at u6 el4
    refine ⟨.ref l4, _, rfl, .lst el4 (da_rep (d1M.same u6) 4), R4.sh, R4.dp, R4.ln, rfl, _, rfl, ?_⟩
    rw [decide_eq_true rfl]
    refine iteF ?_
    clear u4 u5 ek3 el4 nl3 nl4 nk3
    have d4R := d4M.same u6
    refine ⟨_, rfl, r4, d4, "list", _, rfl, d4R, kit_list d4, _, rfl, ite2 (fun cl => ?_) (fun cl => ?_)⟩
    rotate_left
    · exact tLast_of (u6 _ _ eM) (made.same u6) fun z8 z9 z10 z11 H' s' => ⟨⟨_, _, _, _, _, _, _, _, _, rfl⟩, (bM.same u6).same s'⟩
    obtain ⟨ds, rfl⟩ : ∃ ds, d4 = .list ds := by
      cases d4 with
      | list ds => exact ⟨ds, rfl⟩
      | _ => cases cl
    obtain ⟨q4, xs, rfl, eq4, x4⟩ := d4R.lst_inv
    have hlen : xs.length ≤ 5 := by
      rw [x4.length]
      exact of_decide_eq_true F4.2.2
    refine ⟨_, rfl, .inl ⟨rfl, _, SqL.of eq4⟩, q4, _, _, rfl, rfl, eq4, small1000 (by omega), ?_⟩
    have eZ : (upd GR q4 (.lst (xs ++ [.int 7]))) q4 = some (.lst (xs ++ [.int 7])) := upd_same
    have xZ : DaAll (upd GR q4 (.lst (xs ++ [.int 7]))) (xs ++ [.int 7]) (ds ++ [.int 7]) := ((items_away eq4 x4).same off_upd).append (.cons (.int 7) .nil)
    have bZ : DeckAt b (4 * (i + 1)) (upd GR q4 (.lst (xs ++ [.int 7]))) := deck_app (bM.same u6) eq4 hlen
    have neq : q4 ≠ pM := fun z => by
      have y := u6 _ _ eM
      rw [← z, eq4] at y
      cases y
      simp at hlen
    have eMZ : (upd GR q4 (.lst (xs ++ [.int 7]))) pM = some (.lst [.ref e0, .ref e1, .ref e2, .ref e3, .ref e4, .ref e5, .ref e6, .ref e7, .ref e8, .ref e9, .ref e10, .ref e11, .ref e12, .ref e13, .ref e14]) := by
      rw [upd_ne (Ne.symm neq)]
      exact u6 _ _ eM
    have A1Z := ErAt.put (A1.same u6) (o := .lst (xs ++ [.int 7])) eq4
    have A4Z := ErAt.put (A4.same u6) (o := .lst (xs ++ [.int 7])) eq4
    have A12Z := ErAt.put (A12.same u6) (o := .lst (xs ++ [.int 7])) eq4
    have mZ := (made.same u6).put (o := .lst (xs ++ [.int 7])) eq4
    generalize upd GR q4 (.lst (xs ++ [.int 7])) = GZ at eZ xZ bZ eMZ A1Z A4Z A12Z mZ
    refine ⟨_, rfl, pM, _, 1, .ref e1, rfl, rfl, SqL.of eMZ, atI_nat (j := 1) rfl, e1, C 1, _, _, rfl, A1Z, fld1, erF 1 (by decide), no_1_word,
      _, rfl, pM, _, 4, .ref e4, rfl, rfl, SqL.of eMZ, atI_nat (j := 4) rfl, e4, C 4, _, _, rfl, A4Z, fldB, erF 4 (by decide), no_4_numbers,
      _, rfl, pM, _, 12, .ref e12, rfl, rfl, SqL.of eMZ, atI_nat (j := 12) rfl, e12, C 12, _, _, rfl, A12Z, fld1, erF 12 (by decide), no_12_number, (by show 3 ≤ sizeLine; decide), fun k5 nk5 => ?_⟩
    have R3 := rp_rep (n := 3) F4.2.1 (by decide) (by decide) (by decide)
    have u7 := same_new (o := .lst [.ref q4, .ref q4, .ref q4]) nk5
    have ek5 : (upd GZ k5 (.lst [.ref q4, .ref q4, .ref q4])) k5 = some (.lst (List.replicate 3 (.ref q4))) := upd_same
    generalize upd GZ k5 (.lst [.ref q4, .ref q4, .ref q4]) = GY at u7 ek5
    have dZ : Da GZ (.ref q4) (app7 (.list ds)) := .lst eZ xZ
    refine ⟨.ref k5, _, rfl, .lst ek5 (da_rep (dZ.same u7) 3), R3.sh, R3.dp, R3.ln, ?_⟩
    refine ⟨_, rfl, (by show 1 ≤ sizeLine; decide), fun l5 nl5 => ?_⟩
    refine ⟨l5, 3, _, rfl, rfl, upd_same, by decide, by decide, (by show 1 * 3 ≤ sizeLine; decide), fun l6 nl6 => ?_⟩
    have u8 := (u7.trans (same_new (o := .lst [.ref q4]) nl5)).trans (same_new (o := .lst (List.replicate (3 : Int).toNat [.ref q4]).flatten) nl6)
    have el6 : (upd (upd GY l5 (.lst [.ref q4])) l6 (.lst (List.replicate (3 : Int).toNat [.ref q4]).flatten)) l6 = some (.lst (List.replicate 3 (.ref q4))) := upd_same
    generalize upd (upd GY l5 (.lst [.ref q4])) l6 (.lst (List.replicate (3 : Int).toNat [.ref q4]).flatten) = GX at u8 el6
    refine ⟨.ref l6, _, rfl, .lst el6 (da_rep (dZ.same u8) 3), R3.sh, R3.dp, R3.ln, rfl, _, rfl, ?_⟩
    rw [decide_eq_true rfl]
    refine iteF ?_
    exact tLast_of (u8 _ _ eMZ) (mZ.same u8) fun z8 z9 z10 z11 H' s' => ⟨⟨_, _, _, _, _, _, _, _, _, rfl⟩, (bZ.same u8).same s'⟩
  case last =>
    intro D σ H h
    obtain ⟨x0, x1, x2, x3, x4, x5, x7, y8, y9, y10, y11, pM, es, rfl, eM, ⟨l15, hm⟩, q⟩ := h
    refine ⟨_, rfl, pM, _, rfl, SqL.of eM, for_enum (K := K) (a := pM) (xs := es) (fun i τ G => (∃ y8 y9 y10 y11, τ = [x0, x1, x2, x3, x4, x5, some (.ref pM), x7, y8, y9, y10, y11]) ∧ Same H G) ⟨⟨_, _, _, _, rfl⟩, Same.refl _⟩ (fun j τ G _ hp => SqL.of (hp.2 _ _ eM)) (fun j x τ G Tt hx hp nT => ?_) (fun τ G hp => ?_)⟩
    · obtain ⟨⟨w8, w9, w10, w11, rfl⟩, sg⟩ := hp
      obtain ⟨a, rfl, er, hj⟩ := hm j x hx
      have s1 := sg.trans (same_new (o := .tup [.int (j : Nat), .ref a]) nT)
      refine ⟨Tt, _, rfl, SqT.of upd_same, rfl, _, _, rfl, _, _, rfl, rfl, ?_⟩
      generalize upd G Tt (.tup [.int (j : Nat), .ref a]) = G1 at s1
      have er1 := er.same s1
      have E := tab.exd j hj
      refine ⟨_, rfl, a, C j, .ref T, .ref T, _, rfl, er1, E, fun u r => r, tab.kT j hj, _, rfl, a, C j, .ty "ValueError", .type "ValueError", _, rfl, er1, E, fun u r => r, tab.kV j hj, _, rfl, a, C j, .ty "LookupError", .type "LookupError", _, rfl, er1, E, fun u r => r, tab.kL j hj, (by show 3 ≤ sizeLine; decide), fun p1 n1 => ?_⟩
      have s2 := s1.trans (same_new (o := .lst [.bl (decide (j < 12)), .bl (decide (j < 12)), .bl (decide (12 ≤ j))]) n1)
      have e2 : (upd G1 p1 (.lst [.bl (decide (j < 12)), .bl (decide (j < 12)), .bl (decide (12 ≤ j))])) p1 = some (.lst [.bl (decide (j < 12)), .bl (decide (j < 12)), .bl (decide (12 ≤ j))]) := upd_same
      generalize upd G1 p1 (.lst [.bl (decide (j < 12)), .bl (decide (j < 12)), .bl (decide (12 ≤ j))]) = G2 at s2 e2
      clear er1
      refine ⟨_, rfl, a, j, rfl, hj, er.same s2, fun pf Gf sf ef => ?_⟩
      refine ⟨15, rfl, by decide, by decide, fun D2 nD => lc_range (lo := 0) (n := 15) (g := gName 11) (tt := tYes) (te := tOp rEq (tVar 11) (tVar 8)) (vs := [11]) (H1 := Gf) (D := D2)
        (fun i Hd => Same Gf Hd ∧ Hd D2 = some (.lst (((List.range i).map fun k => decide (j = k)).map V.bl))) ⟨same_new nD, upd_same⟩ (fun i Hd hi hp => ?_) (fun Hd hp => ?_)⟩
      · obtain ⟨sd, eD⟩ := hp
        refine ⟨rfl, _, rfl, _, rfl, rfl, _, eD, ?_, fun z o e => ?_, ?_⟩
        · rw [List.length_map, List.length_map, List.length_range]
          exact small1000 (by omega)
        · rw [upd_ne (ne_of_none e nD)]
          exact sd _ _ e
        · rw [upd_same, List.range_succ, List.map_append, List.map_append, dec_ij]
          rfl
      obtain ⟨sd, eD⟩ := hp
      have s3 := (s2.trans sf).trans sd
      refine ⟨.list ((which j).map PyData.bool), .list ((which j).map PyData.bool), .lst (SqL.of (sd _ _ ef)) (dp_bls (which j)), .lst (SqL.of eD) (dp_bls (which j)), shaped_bls _, shaped_bls _, _, rfl, ?_⟩
      rw [eqv_is]
      refine iteF ?_
      have e3 := sd _ _ (sf _ _ e2)
      have er3 := er.same s3
      refine ⟨_, rfl, _, rfl, _, _, rfl, rfl, _, rfl, ite2 (fun c => ?_) (fun c => ?_)⟩
      · have hj12 : j < 12 := by
          have := of_decide_eq_true c
          omega
        rw [decide_eq_true hj12, decide_eq_false (show ¬ 12 ≤ j by omega)] at e3
        refine ⟨Hd, Same.refl _, (fun _ z => nomatch z), fun v6 H6 s6 d6 => ?_⟩
        obtain ⟨q6, xs6, rfl, e6, x6⟩ := (d6.same (plus_in (Same.refl _) s6)).lst_inv
        have ex6 := bls_inv (bs := [true, true, false]) x6
        subst ex6
        refine ⟨.list ([true, true, false].map PyData.bool), .list ([true, true, false].map PyData.bool), .lst (SqL.of (s6 _ _ e3)) (dp_bls [true, true, false]), .lst (SqL.of e6) (dp_bls [true, true, false]), shaped_bls _, shaped_bls _, _, rfl, ?_⟩
        rw [eqv_is]
        refine iteF ?_
        have er6 := er3.same s6
        refine ⟨_, rfl, a, C j, .ty "KeyError", .type "KeyError", false, rfl, er6, E, fun u r => r, tab.kK j hj, _, rfl, iteF ?_⟩
        refine ⟨_, rfl, a, C j, .ty "IndexError", .type "IndexError", false, rfl, er6, E, fun u r => r, tab.kI j hj, _, rfl, iteF ?_⟩
        exact ⟨⟨_, _, _, _, rfl⟩, s3.trans s6⟩
      · have hj12 : ¬ j < 12 := fun z => c (decide_eq_true (by omega))
        rw [decide_eq_false hj12, decide_eq_true (show 12 ≤ j by omega)] at e3
        refine ⟨Hd, Same.refl _, (fun _ z => nomatch z), fun v6 H6 s6 d6 => ?_⟩
        obtain ⟨q6, xs6, rfl, e6, x6⟩ := (d6.same (plus_in (Same.refl _) s6)).lst_inv
        have ex6 := bls_inv (bs := [false, false, true]) x6
        subst ex6
        refine ⟨.list ([false, false, true].map PyData.bool), .list ([false, false, true].map PyData.bool), .lst (SqL.of (s6 _ _ e3)) (dp_bls [false, false, true]), .lst (SqL.of e6) (dp_bls [false, false, true]), shaped_bls _, shaped_bls _, _, rfl, ?_⟩
        rw [eqv_is]
        refine iteF ?_
        have er6 := er3.same s6
        refine ⟨_, rfl, a, C j, .ty "KeyError", .type "KeyError", false, rfl, er6, E, fun u r => r, tab.kK j hj, _, rfl, iteF ?_⟩
        refine ⟨_, rfl, a, C j, .ty "IndexError", .type "IndexError", false, rfl, er6, E, fun u r => r, tab.kI j hj, _, rfl, iteF ?_⟩
        exact ⟨⟨_, _, _, _, rfl⟩, s3.trans s6⟩
    · obtain ⟨⟨w8, w9, w10, w11, rfl⟩, sg⟩ := hp
      exact q _ _ _ _ G sg
end
end K56

namespace K56
open PySem L2 VK
theorem def_mk {K : PySem.W.Frag} {mg : Str → Option Value} {x : Str} {st : Stmt} {ps : List Str} {f : Addr} {oc : Value} {od an : Option Addr} {osl : Array (Option Value)} {kV doc pm cdv ct : Value}
    (m : mg x = some (.ref f)) (l : K.lookup f = some ⟨oc, od, .func (PySem.W.fnOf x x (defArgs st) (defBody st) (defScope st) .none kV doc pm an cdv ct), osl⟩) (c : PySem.W.codeIn K cdv x = true) (k : PySem.W.keepIn K (.ref f) = true)
    (h : ∀ (kV doc pm : Value) (an : Option Addr) (cdv ct : Value) (us : List Value), us.length = ps.length → bindArgs (PySem.W.fnOf x x (defArgs st) (defBody st) (defScope st) .none kV doc pm an cdv ct) ⟨us, []⟩ = pure (ps.zip us)) : DefAt K mg x st ps :=
  ⟨f, _, fun_mk l c k, (fun_mk l c k).binds h, m⟩
/-- the class at C has these classes behind itself -/
def Mro (K : PySem.W.Frag) (C : Addr) (bm : List Value) : Prop := ∀ c : Value, PySem.W.subIn K (.ref C) c = some ((Value.ref C :: bm).contains c)
theorem mro_mk {K : PySem.W.Frag} {C N : Addr} {nm q : Str} {bs bm : List Value} {hd : Bool} {sn : List Str} {sub : List Value} {ab : Bool} {col : Option Bool} {dd : Option Addr} {k0 k1 k2 k3 k5 : Option Value} {newId : String}
    (h : K.lookup C = some (excClassObj nm q C N bs bm hd sn sub ab col dd k0 k1 k2 k3 k5 newId)) : Mro K C bm := fun c => by
  show PySem.W.mroIn K C c = _
  unfold PySem.W.mroIn PySem.W.clsIn
  rw [h] <;> rfl
theorem con_type {C : Addr} {bm : List Value} {T : String} : (Value.ref C :: bm).contains (.type T) = bm.contains (.type T) := by
  rw [List.contains_cons]
  have : (Value.type T == Value.ref C) = false := by simp
  rw [this, Bool.false_or]
theorem con_VE {C S T : Addr} (h : S ≠ T) : (Value.ref C :: [.ref T, .type "ValueError", .type "Exception", .type "BaseException", .type "object"]).contains (.ref S) = decide (C = S) := by
  rw [Bool.eq_iff_iff, decide_eq_true_iff, List.contains_iff_mem]
  simp only [List.mem_cons, List.not_mem_nil, or_false]
  constructor
  · rintro (z | z | z | z | z | z)
    · exact (Value.ref.inj z).symm
    · exact absurd (Value.ref.inj z) h
    all_goals cases z
  · rintro rfl
    exact .inl rfl
theorem con_LE {C S : Addr} : (Value.ref C :: [.type "LookupError", .type "Exception", .type "BaseException", .type "object"]).contains (.ref S) = decide (C = S) := by
  rw [Bool.eq_iff_iff, decide_eq_true_iff, List.contains_iff_mem]
  simp only [List.mem_cons, List.not_mem_nil, or_false]
  constructor
  · rintro (z | z | z | z | z)
    · exact (Value.ref.inj z).symm
    all_goals cases z
  · rintro rfl
    exact .inl rfl
theorem kit_at {K : PySem.W.Frag} {C S : Addr} {bm : List Value} {b : Bool} (M : Mro K C bm) (h2 : PySem.W.isClsIn K S = true) (h3 : PySem.W.typeIn K (.ref S) = some (.type "type")) (e : (Value.ref C :: bm).contains (.ref S) = b) : PySem.W.kitOne K (.ref C) (.ref S) = some b := by
  have z2 : ((PySem.W.clsIn K S).isSome && PySem.W.typeIn K (.ref S) == some (.type "type")) = true := by
    have y : (PySem.W.clsIn K S).isSome = true := h2
    rw [y, h3] <;> rfl
  unfold PySem.W.kitOne
  by_cases q : (Value.ref C == Value.ref S) = true
  · rw [if_pos q]
    have q' : Value.ref C = Value.ref S := by simpa using q
    rw [← e, q', List.contains_cons]
    simp
  · rw [if_neg q]
    show (if ((PySem.W.clsIn K S).isSome && PySem.W.typeIn K (.ref S) == some (.type "type")) = true then PySem.W.subIn K (.ref C) (.ref S) else none) = some b
    rw [if_pos z2, M, e]
theorem kit_ty_at {K : PySem.W.Frag} {C : Addr} {bm : List Value} {T : String} {b : Bool} (M : Mro K C bm) (hm : PySem.W.kitMeta T = true) (e : bm.contains (.type T) = b) : PySem.W.kitOne K (.ref C) (.type T) = some b := by
  unfold PySem.W.kitOne
  have q : ¬ (Value.ref C == Value.type T) = true := by simp
  rw [if_neg q]
  show (if PySem.W.kitMeta T = true then PySem.W.subIn K (.ref C) (.type T) else none) = some b
  rw [if_pos hm, M, con_type, e]
theorem nth_inj {L : List Addr} {n : Nat} (nd : L.Nodup) (hl : n ≤ L.length) {i j : Nat} (hi : i < n) (hj : j < n) : decide (L.getD i 0 = L.getD j 0) = decide (i = j) := by
  have hi' : i < L.length := Nat.lt_of_lt_of_le hi hl
  have hj' : j < L.length := Nat.lt_of_lt_of_le hj hl
  rw [Bool.eq_iff_iff, decide_eq_true_iff, decide_eq_true_iff, List.getD_eq_getElem?_getD, List.getD_eq_getElem?_getD, List.getElem?_eq_getElem hi', List.getElem?_eq_getElem hj']
  exact ⟨fun z => (List.getElem_inj nd).mp z, fun z => by subst z; rfl⟩
theorem low_cases {p : Nat → Prop} (h0 : p 0) (h1 : p 1) (h2 : p 2) (h3 : p 3) (h4 : p 4) (h5 : p 5) (h6 : p 6) (h7 : p 7) (h8 : p 8) (h9 : p 9) (h10 : p 10) (h11 : p 11) (h12 : p 12) (h13 : p 13) (h14 : p 14) : ∀ i, i < 15 → p i := fun i hi => by
  match i, hi with
  | 0, _ => exact h0
  | 1, _ => exact h1
  | 2, _ => exact h2
  | 3, _ => exact h3
  | 4, _ => exact h4
  | 5, _ => exact h5
  | 6, _ => exact h6
  | 7, _ => exact h7
  | 8, _ => exact h8
  | 9, _ => exact h9
  | 10, _ => exact h10
  | 11, _ => exact h11
  | 12, _ => exact h12
  | 13, _ => exact h13
  | 14, _ => exact h14
  | n + 15, hi => omega
theorem cont_VE {T : Addr} (X : String) : ([.ref T, .type "ValueError", .type "Exception", .type "BaseException", .type "object"] : List Value).contains (.type X) = ([.type "ValueError", .type "Exception", .type "BaseException", .type "object"] : List Value).contains (.type X) := con_type
/-- what the written part says of one class -/
structure One (K : PySem.W.Frag) (C : Addr) : Prop where
  ga : PySem.W.findIn K (.ref C) "__getattribute__" = some (some (.builtin "BaseException.__getattribute__"))
  gg : PySem.W.findIn K (.ref C) "__getattr__" = some none
  xe : PySem.W.subIn K (.ref C) (.type "BaseException") = some true
  xo : PySem.W.isClsIn K C = true
  xy : PySem.W.typeIn K (.ref C) = some (.type "type")
  xh : PySem.W.hasDictIn K C = true
  xw : PySem.W.findIn K (.ref C) "__class__" = some (some (.builtin "object.__class__"))
  xr : PySem.W.mroIn K C (.type "object") = some true
theorem all_mk {l : PySem.W.OpenLaw} {w : World} {K : PySem.W.Frag} {h : Heap} {mg : Str → Option Value} {fa f1 f2 f3 f4 f5 f6 C0 C1 C2 C3 C4 C5 C6 C7 C8 C9 C10 C11 C12 C13 C14 CT I0 I1 I2 I3 I4 I5 I6 I7 I8 I11 I12 I13 I14 : Addr} (X : K.In h) (G : h.Ns mainGlobals mg) (hfa : mg "law" = some (.ref fa))
    {od1 an1 od2 an2 od3 an3 od4 an4 od5 an5 od6 an6 : Option Addr} {sl1 sl2 sl3 sl4 sl5 sl6 : Array (Option Value)} {oc1 kV1 dc1 pm1 cd1 ct1 oc2 kV2 dc2 pm2 cd2 ct2 oc3 kV3 dc3 pm3 cd3 ct3 oc4 kV4 dc4 pm4 cd4 ct4 oc5 kV5 dc5 pm5 cd5 ct5 oc6 kV6 dc6 pm6 cd6 ct6 : Value}
    {xn0 xq0 : Str} {xN0 : Addr} {xb0 : List Value} {xs0 : List Str} {xu0 : List Value} {xv0 : Bool} {xc0 : Option Bool} {xd0 : Option Addr} {xm00 xm01 xm02 xm03 xm05 : Option Value}
    {yo0 yc0 ym0 yv0 yt0 : Value} {yd0 ya0 : Option Addr} {ys0 : Array (Option Value)} {p0_1 p0_2 p0_3 q0_00 q0_01 q0_02 q0_03 q0_10 q0_11 q0_12 q0_13 : Pos}
    {xn1 xq1 : Str} {xN1 : Addr} {xb1 : List Value} {xs1 : List Str} {xu1 : List Value} {xv1 : Bool} {xc1 : Option Bool} {xd1 : Option Addr} {xm10 xm11 xm12 xm13 xm15 : Option Value}
    {yo1 yc1 ym1 yv1 yt1 : Value} {yd1 ya1 : Option Addr} {ys1 : Array (Option Value)} {p1_1 p1_2 q1_00 q1_01 q1_02 q1_03 : Pos}
    {xn2 xq2 : Str} {xN2 : Addr} {xb2 : List Value} {xs2 : List Str} {xu2 : List Value} {xv2 : Bool} {xc2 : Option Bool} {xd2 : Option Addr} {xm20 xm21 xm22 xm23 xm25 : Option Value}
    {yo2 yc2 ym2 yv2 yt2 : Value} {yd2 ya2 : Option Addr} {ys2 : Array (Option Value)} {p2_1 p2_2 q2_00 q2_01 q2_02 q2_03 : Pos}
    {xn3 xq3 : Str} {xN3 : Addr} {xb3 : List Value} {xs3 : List Str} {xu3 : List Value} {xv3 : Bool} {xc3 : Option Bool} {xd3 : Option Addr} {xm30 xm31 xm32 xm33 xm35 : Option Value}
    {yo3 yc3 ym3 yv3 yt3 : Value} {yd3 ya3 : Option Addr} {ys3 : Array (Option Value)} {p3_1 p3_2 p3_3 q3_00 q3_01 q3_02 q3_03 q3_10 q3_11 q3_12 q3_13 : Pos}
    {xn4 xq4 : Str} {xN4 : Addr} {xb4 : List Value} {xs4 : List Str} {xu4 : List Value} {xv4 : Bool} {xc4 : Option Bool} {xd4 : Option Addr} {xm40 xm41 xm42 xm43 xm45 : Option Value}
    {yo4 yc4 ym4 yv4 yt4 : Value} {yd4 ya4 : Option Addr} {ys4 : Array (Option Value)} {p4_1 p4_2 p4_3 q4_00 q4_01 q4_02 q4_03 q4_10 q4_11 q4_12 q4_13 : Pos}
    {xn5 xq5 : Str} {xN5 : Addr} {xb5 : List Value} {xs5 : List Str} {xu5 : List Value} {xv5 : Bool} {xc5 : Option Bool} {xd5 : Option Addr} {xm50 xm51 xm52 xm53 xm55 : Option Value}
    {yo5 yc5 ym5 yv5 yt5 : Value} {yd5 ya5 : Option Addr} {ys5 : Array (Option Value)} {p5_1 p5_2 q5_00 q5_01 q5_02 q5_03 : Pos}
    {xn6 xq6 : Str} {xN6 : Addr} {xb6 : List Value} {xs6 : List Str} {xu6 : List Value} {xv6 : Bool} {xc6 : Option Bool} {xd6 : Option Addr} {xm60 xm61 xm62 xm63 xm65 : Option Value}
    {yo6 yc6 ym6 yv6 yt6 : Value} {yd6 ya6 : Option Addr} {ys6 : Array (Option Value)} {p6_1 p6_2 q6_00 q6_01 q6_02 q6_03 : Pos}
    {xn7 xq7 : Str} {xN7 : Addr} {xb7 : List Value} {xs7 : List Str} {xu7 : List Value} {xv7 : Bool} {xc7 : Option Bool} {xd7 : Option Addr} {xm70 xm71 xm72 xm73 xm75 : Option Value}
    {yo7 yc7 ym7 yv7 yt7 : Value} {yd7 ya7 : Option Addr} {ys7 : Array (Option Value)} {p7_1 p7_2 q7_00 q7_01 q7_02 q7_03 : Pos}
    {xn8 xq8 : Str} {xN8 : Addr} {xb8 : List Value} {xs8 : List Str} {xu8 : List Value} {xv8 : Bool} {xc8 : Option Bool} {xd8 : Option Addr} {xm80 xm81 xm82 xm83 xm85 : Option Value}
    {yo8 yc8 ym8 yv8 yt8 : Value} {yd8 ya8 : Option Addr} {ys8 : Array (Option Value)} {p8_1 p8_2 p8_3 q8_00 q8_01 q8_02 q8_03 q8_10 q8_11 q8_12 q8_13 : Pos}
    {xn9 xq9 : Str} {xN9 : Addr} {xb9 : List Value} {xs9 : List Str} {xu9 : List Value} {xv9 : Bool} {xc9 : Option Bool} {xd9 : Option Addr} {xm90 xm91 xm92 xm93 xm95 : Option Value}
    {xn10 xq10 : Str} {xN10 : Addr} {xb10 : List Value} {xs10 : List Str} {xu10 : List Value} {xv10 : Bool} {xc10 : Option Bool} {xd10 : Option Addr} {xm100 xm101 xm102 xm103 xm105 : Option Value}
    {xn11 xq11 : Str} {xN11 : Addr} {xb11 : List Value} {xs11 : List Str} {xu11 : List Value} {xv11 : Bool} {xc11 : Option Bool} {xd11 : Option Addr} {xm110 xm111 xm112 xm113 xm115 : Option Value}
    {yo11 yc11 ym11 yv11 yt11 : Value} {yd11 ya11 : Option Addr} {ys11 : Array (Option Value)} {p11_1 p11_2 q11_00 q11_01 q11_02 q11_03 : Pos}
    {xn12 xq12 : Str} {xN12 : Addr} {xb12 : List Value} {xs12 : List Str} {xu12 : List Value} {xv12 : Bool} {xc12 : Option Bool} {xd12 : Option Addr} {xm120 xm121 xm122 xm123 xm125 : Option Value}
    {yo12 yc12 ym12 yv12 yt12 : Value} {yd12 ya12 : Option Addr} {ys12 : Array (Option Value)} {p12_1 p12_2 q12_00 q12_01 q12_02 q12_03 : Pos}
    {xn13 xq13 : Str} {xN13 : Addr} {xb13 : List Value} {xs13 : List Str} {xu13 : List Value} {xv13 : Bool} {xc13 : Option Bool} {xd13 : Option Addr} {xm130 xm131 xm132 xm133 xm135 : Option Value}
    {yo13 yc13 ym13 yv13 yt13 : Value} {yd13 ya13 : Option Addr} {ys13 : Array (Option Value)} {p13_1 p13_2 q13_00 q13_01 q13_02 q13_03 : Pos}
    {xn14 xq14 : Str} {xN14 : Addr} {xb14 : List Value} {xs14 : List Str} {xu14 : List Value} {xv14 : Bool} {xc14 : Option Bool} {xd14 : Option Addr} {xm140 xm141 xm142 xm143 xm145 : Option Value}
    {yo14 yc14 ym14 yv14 yt14 : Value} {yd14 ya14 : Option Addr} {ys14 : Array (Option Value)} {p14_1 p14_2 q14_00 q14_01 q14_02 q14_03 : Pos}
    {t_CLAIMS t_EDITS t_ENTRIES t_FEW t_GIVEN t_LEAST t_LONG t_NAMES t_ROAD t_SHORT t_SIZE t_TABLE t_TRIES t_UNLIKE t_WORD : Tok}
    (a1 : PySem.W.nsIn K mainGlobals "_law_deck" = some (some (.ref f1))) (l1 : K.lookup f1 = some ⟨oc1, od1, .func (PySem.W.fnOf "_law_deck" "_law_deck" (defArgs s_law_deck) (defBody s_law_deck) (defScope s_law_deck) .none kV1 dc1 pm1 an1 cd1 ct1), sl1⟩) (c1 : PySem.W.codeIn K cd1 "_law_deck" = true) (k1 : PySem.W.keepIn K (.ref f1) = true)
    (a2 : PySem.W.nsIn K mainGlobals "_law_take" = some (some (.ref f2))) (l2 : K.lookup f2 = some ⟨oc2, od2, .func (PySem.W.fnOf "_law_take" "_law_take" (defArgs s_law_take) (defBody s_law_take) (defScope s_law_take) .none kV2 dc2 pm2 an2 cd2 ct2), sl2⟩) (c2 : PySem.W.codeIn K cd2 "_law_take" = true) (k2 : PySem.W.keepIn K (.ref f2) = true)
    (a3 : PySem.W.nsIn K mainGlobals "_law_one" = some (some (.ref f3))) (l3 : K.lookup f3 = some ⟨oc3, od3, .func (PySem.W.fnOf "_law_one" "_law_one" (defArgs s_law_one) (defBody s_law_one) (defScope s_law_one) .none kV3 dc3 pm3 an3 cd3 ct3), sl3⟩) (c3 : PySem.W.codeIn K cd3 "_law_one" = true) (k3 : PySem.W.keepIn K (.ref f3) = true)
    (a4 : PySem.W.nsIn K mainGlobals "_law_odd" = some (some (.ref f4))) (l4 : K.lookup f4 = some ⟨oc4, od4, .func (PySem.W.fnOf "_law_odd" "_law_odd" (defArgs s_law_odd) (defBody s_law_odd) (defScope s_law_odd) .none kV4 dc4 pm4 an4 cd4 ct4), sl4⟩) (c4 : PySem.W.codeIn K cd4 "_law_odd" = true) (k4 : PySem.W.keepIn K (.ref f4) = true)
    (a5 : PySem.W.nsIn K mainGlobals "_law_flags" = some (some (.ref f5))) (l5 : K.lookup f5 = some ⟨oc5, od5, .func (PySem.W.fnOf "_law_flags" "_law_flags" (defArgs s_law_flags) (defBody s_law_flags) (defScope s_law_flags) .none kV5 dc5 pm5 an5 cd5 ct5), sl5⟩) (c5 : PySem.W.codeIn K cd5 "_law_flags" = true) (k5 : PySem.W.keepIn K (.ref f5) = true)
    (a6 : PySem.W.nsIn K mainGlobals "law" = some (some (.ref f6))) (l6 : K.lookup f6 = some ⟨oc6, od6, .func (PySem.W.fnOf "law" "law" (defArgs slaw) (defBody slaw) (defScope slaw) .none kV6 dc6 pm6 an6 cd6 ct6), sl6⟩) (c6 : PySem.W.codeIn K cd6 "law" = true) (k6 : PySem.W.keepIn K (.ref f6) = true)
    (z0 : PySem.W.nsIn K mainGlobals "isinstance" = some none)
    (z1 : PySem.W.nsIn K mainGlobals "len" = some none)
    (z2 : PySem.W.nsIn K mainGlobals "abs" = some none)
    (z3 : PySem.W.nsIn K mainGlobals "range" = some none)
    (z4 : PySem.W.nsIn K mainGlobals "repr" = some none)
    (z5 : PySem.W.nsIn K mainGlobals "list" = some none)
    (z6 : PySem.W.nsIn K mainGlobals "enumerate" = some none)
    (z7 : PySem.W.nsIn K mainGlobals "ValueError" = some none)
    (z8 : PySem.W.nsIn K mainGlobals "LookupError" = some none)
    (z9 : PySem.W.nsIn K mainGlobals "KeyError" = some none)
    (z10 : PySem.W.nsIn K mainGlobals "IndexError" = some none)
    (xa0 : PySem.W.nsIn K mainGlobals "BadFacts" = some (some (.ref C0)))
    (xl0 : K.lookup C0 = some (excClassObj xn0 xq0 C0 xN0 xb0 [.ref CT, .type "ValueError", .type "Exception", .type "BaseException", .type "object"] true xs0 xu0 xv0 xc0 xd0 xm00 xm01 xm02 xm03 xm05 "ValueError.__new__"))
    (xga0 : PySem.W.findIn K (.ref C0) "__getattribute__" = some (some (.builtin "BaseException.__getattribute__"))) (xgg0 : PySem.W.findIn K (.ref C0) "__getattr__" = some none)
    (xk0 : PySem.W.keepIn K (.ref C0) = true) (xe0 : PySem.W.subIn K (.ref C0) (.type "BaseException") = some true) (xy0 : PySem.W.typeIn K (.ref C0) = some (.type "type")) (xh0 : PySem.W.hasDictIn K C0 = true) (xo0 : PySem.W.isClsIn K C0 = true)
    (xw0 : PySem.W.findIn K (.ref C0) "__class__" = some (some (.builtin "object.__class__"))) (xr0 : PySem.W.mroIn K C0 (.type "object") = some true)
    (xsa0 : PySem.W.findIn K (.ref C0) "__setattr__" = some (some (.builtin "object.__setattr__")))
    (no_0_number : PySem.W.findIn K (.ref C0) "number" = some none)
    (no_0_word : PySem.W.findIn K (.ref C0) "word" = some none)
    (xi0 : PySem.W.findIn K (.ref C0) "__init__" = some (some (.ref I0))) (xt0 : PySem.W.typeIn K (.ref I0) = some (.type "function"))
    (xf0 : K.lookup I0 = some ⟨yo0, yd0, .func (PySem.W.fnOf "__init__" "BadFacts.__init__" (PySem.ErV.iA_number_word p0_1 p0_2 p0_3) (PySem.ErV.iB_number_word q0_00 q0_01 q0_02 q0_03 q0_10 q0_11 q0_12 q0_13) PySem.ErV.iS_number_word .none .none yc0 ym0 ya0 yv0 yt0), ys0⟩) (xc_0 : PySem.W.codeIn K yv0 "BadFacts.__init__" = true)
    (xa1 : PySem.W.nsIn K mainGlobals "BadFormula" = some (some (.ref C1)))
    (xl1 : K.lookup C1 = some (excClassObj xn1 xq1 C1 xN1 xb1 [.ref CT, .type "ValueError", .type "Exception", .type "BaseException", .type "object"] true xs1 xu1 xv1 xc1 xd1 xm10 xm11 xm12 xm13 xm15 "ValueError.__new__"))
    (xga1 : PySem.W.findIn K (.ref C1) "__getattribute__" = some (some (.builtin "BaseException.__getattribute__"))) (xgg1 : PySem.W.findIn K (.ref C1) "__getattr__" = some none)
    (xk1 : PySem.W.keepIn K (.ref C1) = true) (xe1 : PySem.W.subIn K (.ref C1) (.type "BaseException") = some true) (xy1 : PySem.W.typeIn K (.ref C1) = some (.type "type")) (xh1 : PySem.W.hasDictIn K C1 = true) (xo1 : PySem.W.isClsIn K C1 = true)
    (xw1 : PySem.W.findIn K (.ref C1) "__class__" = some (some (.builtin "object.__class__"))) (xr1 : PySem.W.mroIn K C1 (.type "object") = some true)
    (xsa1 : PySem.W.findIn K (.ref C1) "__setattr__" = some (some (.builtin "object.__setattr__")))
    (no_1_word : PySem.W.findIn K (.ref C1) "word" = some none)
    (xi1 : PySem.W.findIn K (.ref C1) "__init__" = some (some (.ref I1))) (xt1 : PySem.W.typeIn K (.ref I1) = some (.type "function"))
    (xf1 : K.lookup I1 = some ⟨yo1, yd1, .func (PySem.W.fnOf "__init__" "BadFormula.__init__" (PySem.ErV.iA_word p1_1 p1_2) (PySem.ErV.iB_word q1_00 q1_01 q1_02 q1_03) PySem.ErV.iS_word .none .none yc1 ym1 ya1 yv1 yt1), ys1⟩) (xc_1 : PySem.W.codeIn K yv1 "BadFormula.__init__" = true)
    (xa2 : PySem.W.nsIn K mainGlobals "BadSize" = some (some (.ref C2)))
    (xl2 : K.lookup C2 = some (excClassObj xn2 xq2 C2 xN2 xb2 [.ref CT, .type "ValueError", .type "Exception", .type "BaseException", .type "object"] true xs2 xu2 xv2 xc2 xd2 xm20 xm21 xm22 xm23 xm25 "ValueError.__new__"))
    (xga2 : PySem.W.findIn K (.ref C2) "__getattribute__" = some (some (.builtin "BaseException.__getattribute__"))) (xgg2 : PySem.W.findIn K (.ref C2) "__getattr__" = some none)
    (xk2 : PySem.W.keepIn K (.ref C2) = true) (xe2 : PySem.W.subIn K (.ref C2) (.type "BaseException") = some true) (xy2 : PySem.W.typeIn K (.ref C2) = some (.type "type")) (xh2 : PySem.W.hasDictIn K C2 = true) (xo2 : PySem.W.isClsIn K C2 = true)
    (xw2 : PySem.W.findIn K (.ref C2) "__class__" = some (some (.builtin "object.__class__"))) (xr2 : PySem.W.mroIn K C2 (.type "object") = some true)
    (xsa2 : PySem.W.findIn K (.ref C2) "__setattr__" = some (some (.builtin "object.__setattr__")))
    (no_2_size : PySem.W.findIn K (.ref C2) "size" = some none)
    (xi2 : PySem.W.findIn K (.ref C2) "__init__" = some (some (.ref I2))) (xt2 : PySem.W.typeIn K (.ref I2) = some (.type "function"))
    (xf2 : K.lookup I2 = some ⟨yo2, yd2, .func (PySem.W.fnOf "__init__" "BadSize.__init__" (PySem.ErV.iA_size p2_1 p2_2) (PySem.ErV.iB_size q2_00 q2_01 q2_02 q2_03) PySem.ErV.iS_size .none .none yc2 ym2 ya2 yv2 yt2), ys2⟩) (xc_2 : PySem.W.codeIn K yv2 "BadSize.__init__" = true)
    (xa3 : PySem.W.nsIn K mainGlobals "BadText" = some (some (.ref C3)))
    (xl3 : K.lookup C3 = some (excClassObj xn3 xq3 C3 xN3 xb3 [.ref CT, .type "ValueError", .type "Exception", .type "BaseException", .type "object"] true xs3 xu3 xv3 xc3 xd3 xm30 xm31 xm32 xm33 xm35 "ValueError.__new__"))
    (xga3 : PySem.W.findIn K (.ref C3) "__getattribute__" = some (some (.builtin "BaseException.__getattribute__"))) (xgg3 : PySem.W.findIn K (.ref C3) "__getattr__" = some none)
    (xk3 : PySem.W.keepIn K (.ref C3) = true) (xe3 : PySem.W.subIn K (.ref C3) (.type "BaseException") = some true) (xy3 : PySem.W.typeIn K (.ref C3) = some (.type "type")) (xh3 : PySem.W.hasDictIn K C3 = true) (xo3 : PySem.W.isClsIn K C3 = true)
    (xw3 : PySem.W.findIn K (.ref C3) "__class__" = some (some (.builtin "object.__class__"))) (xr3 : PySem.W.mroIn K C3 (.type "object") = some true)
    (xsa3 : PySem.W.findIn K (.ref C3) "__setattr__" = some (some (.builtin "object.__setattr__")))
    (no_3_line : PySem.W.findIn K (.ref C3) "line" = some none)
    (no_3_number : PySem.W.findIn K (.ref C3) "number" = some none)
    (xi3 : PySem.W.findIn K (.ref C3) "__init__" = some (some (.ref I3))) (xt3 : PySem.W.typeIn K (.ref I3) = some (.type "function"))
    (xf3 : K.lookup I3 = some ⟨yo3, yd3, .func (PySem.W.fnOf "__init__" "BadText.__init__" (PySem.ErV.iA_line_number p3_1 p3_2 p3_3) (PySem.ErV.iB_line_number q3_00 q3_01 q3_02 q3_03 q3_10 q3_11 q3_12 q3_13) PySem.ErV.iS_line_number .none .none yc3 ym3 ya3 yv3 yt3), ys3⟩) (xc_3 : PySem.W.codeIn K yv3 "BadText.__init__" = true)
    (xa4 : PySem.W.nsIn K mainGlobals "NoTable" = some (some (.ref C4)))
    (xl4 : K.lookup C4 = some (excClassObj xn4 xq4 C4 xN4 xb4 [.ref CT, .type "ValueError", .type "Exception", .type "BaseException", .type "object"] true xs4 xu4 xv4 xc4 xd4 xm40 xm41 xm42 xm43 xm45 "ValueError.__new__"))
    (xga4 : PySem.W.findIn K (.ref C4) "__getattribute__" = some (some (.builtin "BaseException.__getattribute__"))) (xgg4 : PySem.W.findIn K (.ref C4) "__getattr__" = some none)
    (xk4 : PySem.W.keepIn K (.ref C4) = true) (xe4 : PySem.W.subIn K (.ref C4) (.type "BaseException") = some true) (xy4 : PySem.W.typeIn K (.ref C4) = some (.type "type")) (xh4 : PySem.W.hasDictIn K C4 = true) (xo4 : PySem.W.isClsIn K C4 = true)
    (xw4 : PySem.W.findIn K (.ref C4) "__class__" = some (some (.builtin "object.__class__"))) (xr4 : PySem.W.mroIn K C4 (.type "object") = some true)
    (xsa4 : PySem.W.findIn K (.ref C4) "__setattr__" = some (some (.builtin "object.__setattr__")))
    (no_4_pair : PySem.W.findIn K (.ref C4) "pair" = some none)
    (no_4_numbers : PySem.W.findIn K (.ref C4) "numbers" = some none)
    (xi4 : PySem.W.findIn K (.ref C4) "__init__" = some (some (.ref I4))) (xt4 : PySem.W.typeIn K (.ref I4) = some (.type "function"))
    (xf4 : K.lookup I4 = some ⟨yo4, yd4, .func (PySem.W.fnOf "__init__" "NoTable.__init__" (PySem.ErV.iA_pair_numbers p4_1 p4_2 p4_3) (PySem.ErV.iB_pair_numbers q4_00 q4_01 q4_02 q4_03 q4_10 q4_11 q4_12 q4_13) PySem.ErV.iS_pair_numbers .none .none yc4 ym4 ya4 yv4 yt4), ys4⟩) (xc_4 : PySem.W.codeIn K yv4 "NoTable.__init__" = true)
    (xa5 : PySem.W.nsIn K mainGlobals "NotOnce" = some (some (.ref C5)))
    (xl5 : K.lookup C5 = some (excClassObj xn5 xq5 C5 xN5 xb5 [.ref CT, .type "ValueError", .type "Exception", .type "BaseException", .type "object"] true xs5 xu5 xv5 xc5 xd5 xm50 xm51 xm52 xm53 xm55 "ValueError.__new__"))
    (xga5 : PySem.W.findIn K (.ref C5) "__getattribute__" = some (some (.builtin "BaseException.__getattribute__"))) (xgg5 : PySem.W.findIn K (.ref C5) "__getattr__" = some none)
    (xk5 : PySem.W.keepIn K (.ref C5) = true) (xe5 : PySem.W.subIn K (.ref C5) (.type "BaseException") = some true) (xy5 : PySem.W.typeIn K (.ref C5) = some (.type "type")) (xh5 : PySem.W.hasDictIn K C5 = true) (xo5 : PySem.W.isClsIn K C5 = true)
    (xw5 : PySem.W.findIn K (.ref C5) "__class__" = some (some (.builtin "object.__class__"))) (xr5 : PySem.W.mroIn K C5 (.type "object") = some true)
    (xsa5 : PySem.W.findIn K (.ref C5) "__setattr__" = some (some (.builtin "object.__setattr__")))
    (no_5_name : PySem.W.findIn K (.ref C5) "name" = some none)
    (xi5 : PySem.W.findIn K (.ref C5) "__init__" = some (some (.ref I5))) (xt5 : PySem.W.typeIn K (.ref I5) = some (.type "function"))
    (xf5 : K.lookup I5 = some ⟨yo5, yd5, .func (PySem.W.fnOf "__init__" "NotOnce.__init__" (PySem.ErV.iA_name p5_1 p5_2) (PySem.ErV.iB_name q5_00 q5_01 q5_02 q5_03) PySem.ErV.iS_name .none .none yc5 ym5 ya5 yv5 yt5), ys5⟩) (xc_5 : PySem.W.codeIn K yv5 "NotOnce.__init__" = true)
    (xa6 : PySem.W.nsIn K mainGlobals "Taken" = some (some (.ref C6)))
    (xl6 : K.lookup C6 = some (excClassObj xn6 xq6 C6 xN6 xb6 [.ref CT, .type "ValueError", .type "Exception", .type "BaseException", .type "object"] true xs6 xu6 xv6 xc6 xd6 xm60 xm61 xm62 xm63 xm65 "ValueError.__new__"))
    (xga6 : PySem.W.findIn K (.ref C6) "__getattribute__" = some (some (.builtin "BaseException.__getattribute__"))) (xgg6 : PySem.W.findIn K (.ref C6) "__getattr__" = some none)
    (xk6 : PySem.W.keepIn K (.ref C6) = true) (xe6 : PySem.W.subIn K (.ref C6) (.type "BaseException") = some true) (xy6 : PySem.W.typeIn K (.ref C6) = some (.type "type")) (xh6 : PySem.W.hasDictIn K C6 = true) (xo6 : PySem.W.isClsIn K C6 = true)
    (xw6 : PySem.W.findIn K (.ref C6) "__class__" = some (some (.builtin "object.__class__"))) (xr6 : PySem.W.mroIn K C6 (.type "object") = some true)
    (xsa6 : PySem.W.findIn K (.ref C6) "__setattr__" = some (some (.builtin "object.__setattr__")))
    (no_6_name : PySem.W.findIn K (.ref C6) "name" = some none)
    (xi6 : PySem.W.findIn K (.ref C6) "__init__" = some (some (.ref I6))) (xt6 : PySem.W.typeIn K (.ref I6) = some (.type "function"))
    (xf6 : K.lookup I6 = some ⟨yo6, yd6, .func (PySem.W.fnOf "__init__" "Taken.__init__" (PySem.ErV.iA_name p6_1 p6_2) (PySem.ErV.iB_name q6_00 q6_01 q6_02 q6_03) PySem.ErV.iS_name .none .none yc6 ym6 ya6 yv6 yt6), ys6⟩) (xc_6 : PySem.W.codeIn K yv6 "Taken.__init__" = true)
    (xa7 : PySem.W.nsIn K mainGlobals "TooMany" = some (some (.ref C7)))
    (xl7 : K.lookup C7 = some (excClassObj xn7 xq7 C7 xN7 xb7 [.ref CT, .type "ValueError", .type "Exception", .type "BaseException", .type "object"] true xs7 xu7 xv7 xc7 xd7 xm70 xm71 xm72 xm73 xm75 "ValueError.__new__"))
    (xga7 : PySem.W.findIn K (.ref C7) "__getattribute__" = some (some (.builtin "BaseException.__getattribute__"))) (xgg7 : PySem.W.findIn K (.ref C7) "__getattr__" = some none)
    (xk7 : PySem.W.keepIn K (.ref C7) = true) (xe7 : PySem.W.subIn K (.ref C7) (.type "BaseException") = some true) (xy7 : PySem.W.typeIn K (.ref C7) = some (.type "type")) (xh7 : PySem.W.hasDictIn K C7 = true) (xo7 : PySem.W.isClsIn K C7 = true)
    (xw7 : PySem.W.findIn K (.ref C7) "__class__" = some (some (.builtin "object.__class__"))) (xr7 : PySem.W.mroIn K C7 (.type "object") = some true)
    (xsa7 : PySem.W.findIn K (.ref C7) "__setattr__" = some (some (.builtin "object.__setattr__")))
    (no_7_limit : PySem.W.findIn K (.ref C7) "limit" = some none)
    (xi7 : PySem.W.findIn K (.ref C7) "__init__" = some (some (.ref I7))) (xt7 : PySem.W.typeIn K (.ref I7) = some (.type "function"))
    (xf7 : K.lookup I7 = some ⟨yo7, yd7, .func (PySem.W.fnOf "__init__" "TooMany.__init__" (PySem.ErV.iA_limit p7_1 p7_2) (PySem.ErV.iB_limit q7_00 q7_01 q7_02 q7_03) PySem.ErV.iS_limit .none .none yc7 ym7 ya7 yv7 yt7), ys7⟩) (xc_7 : PySem.W.codeIn K yv7 "TooMany.__init__" = true)
    (xa8 : PySem.W.nsIn K mainGlobals "UnlikeNames" = some (some (.ref C8)))
    (xl8 : K.lookup C8 = some (excClassObj xn8 xq8 C8 xN8 xb8 [.ref CT, .type "ValueError", .type "Exception", .type "BaseException", .type "object"] true xs8 xu8 xv8 xc8 xd8 xm80 xm81 xm82 xm83 xm85 "ValueError.__new__"))
    (xga8 : PySem.W.findIn K (.ref C8) "__getattribute__" = some (some (.builtin "BaseException.__getattribute__"))) (xgg8 : PySem.W.findIn K (.ref C8) "__getattr__" = some none)
    (xk8 : PySem.W.keepIn K (.ref C8) = true) (xe8 : PySem.W.subIn K (.ref C8) (.type "BaseException") = some true) (xy8 : PySem.W.typeIn K (.ref C8) = some (.type "type")) (xh8 : PySem.W.hasDictIn K C8 = true) (xo8 : PySem.W.isClsIn K C8 = true)
    (xw8 : PySem.W.findIn K (.ref C8) "__class__" = some (some (.builtin "object.__class__"))) (xr8 : PySem.W.mroIn K C8 (.type "object") = some true)
    (xsa8 : PySem.W.findIn K (.ref C8) "__setattr__" = some (some (.builtin "object.__setattr__")))
    (no_8_one : PySem.W.findIn K (.ref C8) "one" = some none)
    (no_8_other : PySem.W.findIn K (.ref C8) "other" = some none)
    (xi8 : PySem.W.findIn K (.ref C8) "__init__" = some (some (.ref I8))) (xt8 : PySem.W.typeIn K (.ref I8) = some (.type "function"))
    (xf8 : K.lookup I8 = some ⟨yo8, yd8, .func (PySem.W.fnOf "__init__" "UnlikeNames.__init__" (PySem.ErV.iA_one_other p8_1 p8_2 p8_3) (PySem.ErV.iB_one_other q8_00 q8_01 q8_02 q8_03 q8_10 q8_11 q8_12 q8_13) PySem.ErV.iS_one_other .none .none yc8 ym8 ya8 yv8 yt8), ys8⟩) (xc_8 : PySem.W.codeIn K yv8 "UnlikeNames.__init__" = true)
    (xa9 : PySem.W.nsIn K mainGlobals "Full" = some (some (.ref C9)))
    (xl9 : K.lookup C9 = some (excClassObj xn9 xq9 C9 xN9 xb9 [.ref CT, .type "ValueError", .type "Exception", .type "BaseException", .type "object"] true xs9 xu9 xv9 xc9 xd9 xm90 xm91 xm92 xm93 xm95 "ValueError.__new__"))
    (xga9 : PySem.W.findIn K (.ref C9) "__getattribute__" = some (some (.builtin "BaseException.__getattribute__"))) (xgg9 : PySem.W.findIn K (.ref C9) "__getattr__" = some none)
    (xk9 : PySem.W.keepIn K (.ref C9) = true) (xe9 : PySem.W.subIn K (.ref C9) (.type "BaseException") = some true) (xy9 : PySem.W.typeIn K (.ref C9) = some (.type "type")) (xh9 : PySem.W.hasDictIn K C9 = true) (xo9 : PySem.W.isClsIn K C9 = true)
    (xw9 : PySem.W.findIn K (.ref C9) "__class__" = some (some (.builtin "object.__class__"))) (xr9 : PySem.W.mroIn K C9 (.type "object") = some true)
    (xx9 : PySem.W.excIn K C9 [.type "ValueError", .type "Exception", .type "BaseException", .type "object"] "ValueError.__new__" = true)
    (xa10 : PySem.W.nsIn K mainGlobals "NothingToUndo" = some (some (.ref C10)))
    (xl10 : K.lookup C10 = some (excClassObj xn10 xq10 C10 xN10 xb10 [.ref CT, .type "ValueError", .type "Exception", .type "BaseException", .type "object"] true xs10 xu10 xv10 xc10 xd10 xm100 xm101 xm102 xm103 xm105 "ValueError.__new__"))
    (xga10 : PySem.W.findIn K (.ref C10) "__getattribute__" = some (some (.builtin "BaseException.__getattribute__"))) (xgg10 : PySem.W.findIn K (.ref C10) "__getattr__" = some none)
    (xk10 : PySem.W.keepIn K (.ref C10) = true) (xe10 : PySem.W.subIn K (.ref C10) (.type "BaseException") = some true) (xy10 : PySem.W.typeIn K (.ref C10) = some (.type "type")) (xh10 : PySem.W.hasDictIn K C10 = true) (xo10 : PySem.W.isClsIn K C10 = true)
    (xw10 : PySem.W.findIn K (.ref C10) "__class__" = some (some (.builtin "object.__class__"))) (xr10 : PySem.W.mroIn K C10 (.type "object") = some true)
    (xx10 : PySem.W.excIn K C10 [.type "ValueError", .type "Exception", .type "BaseException", .type "object"] "ValueError.__new__" = true)
    (xa11 : PySem.W.nsIn K mainGlobals "TornGivens" = some (some (.ref C11)))
    (xl11 : K.lookup C11 = some (excClassObj xn11 xq11 C11 xN11 xb11 [.ref CT, .type "ValueError", .type "Exception", .type "BaseException", .type "object"] true xs11 xu11 xv11 xc11 xd11 xm110 xm111 xm112 xm113 xm115 "ValueError.__new__"))
    (xga11 : PySem.W.findIn K (.ref C11) "__getattribute__" = some (some (.builtin "BaseException.__getattribute__"))) (xgg11 : PySem.W.findIn K (.ref C11) "__getattr__" = some none)
    (xk11 : PySem.W.keepIn K (.ref C11) = true) (xe11 : PySem.W.subIn K (.ref C11) (.type "BaseException") = some true) (xy11 : PySem.W.typeIn K (.ref C11) = some (.type "type")) (xh11 : PySem.W.hasDictIn K C11 = true) (xo11 : PySem.W.isClsIn K C11 = true)
    (xw11 : PySem.W.findIn K (.ref C11) "__class__" = some (some (.builtin "object.__class__"))) (xr11 : PySem.W.mroIn K C11 (.type "object") = some true)
    (xsa11 : PySem.W.findIn K (.ref C11) "__setattr__" = some (some (.builtin "object.__setattr__")))
    (no_11_numbers : PySem.W.findIn K (.ref C11) "numbers" = some none)
    (xi11 : PySem.W.findIn K (.ref C11) "__init__" = some (some (.ref I11))) (xt11 : PySem.W.typeIn K (.ref I11) = some (.type "function"))
    (xf11 : K.lookup I11 = some ⟨yo11, yd11, .func (PySem.W.fnOf "__init__" "TornGivens.__init__" (PySem.ErV.iA_numbers p11_1 p11_2) (PySem.ErV.iB_numbers q11_00 q11_01 q11_02 q11_03) PySem.ErV.iS_numbers .none .none yc11 ym11 ya11 yv11 yt11), ys11⟩) (xc_11 : PySem.W.codeIn K yv11 "TornGivens.__init__" = true)
    (xa12 : PySem.W.nsIn K mainGlobals "NoClaim" = some (some (.ref C12)))
    (xl12 : K.lookup C12 = some (excClassObj xn12 xq12 C12 xN12 xb12 [.type "LookupError", .type "Exception", .type "BaseException", .type "object"] true xs12 xu12 xv12 xc12 xd12 xm120 xm121 xm122 xm123 xm125 "LookupError.__new__"))
    (xga12 : PySem.W.findIn K (.ref C12) "__getattribute__" = some (some (.builtin "BaseException.__getattribute__"))) (xgg12 : PySem.W.findIn K (.ref C12) "__getattr__" = some none)
    (xk12 : PySem.W.keepIn K (.ref C12) = true) (xe12 : PySem.W.subIn K (.ref C12) (.type "BaseException") = some true) (xy12 : PySem.W.typeIn K (.ref C12) = some (.type "type")) (xh12 : PySem.W.hasDictIn K C12 = true) (xo12 : PySem.W.isClsIn K C12 = true)
    (xw12 : PySem.W.findIn K (.ref C12) "__class__" = some (some (.builtin "object.__class__"))) (xr12 : PySem.W.mroIn K C12 (.type "object") = some true)
    (xsa12 : PySem.W.findIn K (.ref C12) "__setattr__" = some (some (.builtin "object.__setattr__")))
    (no_12_number : PySem.W.findIn K (.ref C12) "number" = some none)
    (xi12 : PySem.W.findIn K (.ref C12) "__init__" = some (some (.ref I12))) (xt12 : PySem.W.typeIn K (.ref I12) = some (.type "function"))
    (xf12 : K.lookup I12 = some ⟨yo12, yd12, .func (PySem.W.fnOf "__init__" "NoClaim.__init__" (PySem.ErV.iA_number p12_1 p12_2) (PySem.ErV.iB_number q12_00 q12_01 q12_02 q12_03) PySem.ErV.iS_number .none .none yc12 ym12 ya12 yv12 yt12), ys12⟩) (xc_12 : PySem.W.codeIn K yv12 "NoClaim.__init__" = true)
    (xa13 : PySem.W.nsIn K mainGlobals "NoEntry" = some (some (.ref C13)))
    (xl13 : K.lookup C13 = some (excClassObj xn13 xq13 C13 xN13 xb13 [.type "LookupError", .type "Exception", .type "BaseException", .type "object"] true xs13 xu13 xv13 xc13 xd13 xm130 xm131 xm132 xm133 xm135 "LookupError.__new__"))
    (xga13 : PySem.W.findIn K (.ref C13) "__getattribute__" = some (some (.builtin "BaseException.__getattribute__"))) (xgg13 : PySem.W.findIn K (.ref C13) "__getattr__" = some none)
    (xk13 : PySem.W.keepIn K (.ref C13) = true) (xe13 : PySem.W.subIn K (.ref C13) (.type "BaseException") = some true) (xy13 : PySem.W.typeIn K (.ref C13) = some (.type "type")) (xh13 : PySem.W.hasDictIn K C13 = true) (xo13 : PySem.W.isClsIn K C13 = true)
    (xw13 : PySem.W.findIn K (.ref C13) "__class__" = some (some (.builtin "object.__class__"))) (xr13 : PySem.W.mroIn K C13 (.type "object") = some true)
    (xsa13 : PySem.W.findIn K (.ref C13) "__setattr__" = some (some (.builtin "object.__setattr__")))
    (no_13_number : PySem.W.findIn K (.ref C13) "number" = some none)
    (xi13 : PySem.W.findIn K (.ref C13) "__init__" = some (some (.ref I13))) (xt13 : PySem.W.typeIn K (.ref I13) = some (.type "function"))
    (xf13 : K.lookup I13 = some ⟨yo13, yd13, .func (PySem.W.fnOf "__init__" "NoEntry.__init__" (PySem.ErV.iA_number p13_1 p13_2) (PySem.ErV.iB_number q13_00 q13_01 q13_02 q13_03) PySem.ErV.iS_number .none .none yc13 ym13 ya13 yv13 yt13), ys13⟩) (xc_13 : PySem.W.codeIn K yv13 "NoEntry.__init__" = true)
    (xa14 : PySem.W.nsIn K mainGlobals "NoPair" = some (some (.ref C14)))
    (xl14 : K.lookup C14 = some (excClassObj xn14 xq14 C14 xN14 xb14 [.type "LookupError", .type "Exception", .type "BaseException", .type "object"] true xs14 xu14 xv14 xc14 xd14 xm140 xm141 xm142 xm143 xm145 "LookupError.__new__"))
    (xga14 : PySem.W.findIn K (.ref C14) "__getattribute__" = some (some (.builtin "BaseException.__getattribute__"))) (xgg14 : PySem.W.findIn K (.ref C14) "__getattr__" = some none)
    (xk14 : PySem.W.keepIn K (.ref C14) = true) (xe14 : PySem.W.subIn K (.ref C14) (.type "BaseException") = some true) (xy14 : PySem.W.typeIn K (.ref C14) = some (.type "type")) (xh14 : PySem.W.hasDictIn K C14 = true) (xo14 : PySem.W.isClsIn K C14 = true)
    (xw14 : PySem.W.findIn K (.ref C14) "__class__" = some (some (.builtin "object.__class__"))) (xr14 : PySem.W.mroIn K C14 (.type "object") = some true)
    (xsa14 : PySem.W.findIn K (.ref C14) "__setattr__" = some (some (.builtin "object.__setattr__")))
    (no_14_number : PySem.W.findIn K (.ref C14) "number" = some none)
    (xi14 : PySem.W.findIn K (.ref C14) "__init__" = some (some (.ref I14))) (xt14 : PySem.W.typeIn K (.ref I14) = some (.type "function"))
    (xf14 : K.lookup I14 = some ⟨yo14, yd14, .func (PySem.W.fnOf "__init__" "NoPair.__init__" (PySem.ErV.iA_number p14_1 p14_2) (PySem.ErV.iB_number q14_00 q14_01 q14_02 q14_03) PySem.ErV.iS_number .none .none yc14 ym14 ya14 yv14 yt14), ys14⟩) (xc_14 : PySem.W.codeIn K yv14 "NoPair.__init__" = true)
    (ta : PySem.W.nsIn K mainGlobals "TableError" = some (some (.ref CT))) (to : PySem.W.isClsIn K CT = true) (ty : PySem.W.typeIn K (.ref CT) = some (.type "type"))
    (gn : PySem.W.specialIn K (.builtin "object.__class__") "__get__" = some (some (.builtin "getset_descriptor.__get__"))) (gt : PySem.W.takesIn K (.builtin "object.__class__") = some true)
    (nd : [C0, C1, C2, C3, C4, C5, C6, C7, C8, C9, C10, C11, C12, C13, C14].Nodup) (nT : CT ∉ [C0, C1, C2, C3, C4, C5, C6, C7, C8, C9, C10, C11, C12, C13, C14])
    (w_CLAIMS : PySem.W.nsIn K mainGlobals "MAX_CLAIMS" = some (some (.int 4 t_CLAIMS)))
    (w_EDITS : PySem.W.nsIn K mainGlobals "MAX_EDITS" = some (some (.int 20 t_EDITS)))
    (w_ENTRIES : PySem.W.nsIn K mainGlobals "MAX_ENTRIES" = some (some (.int 10 t_ENTRIES)))
    (w_FEW : PySem.W.nsIn K mainGlobals "MAX_FEW" = some (some (.int 12 t_FEW)))
    (w_GIVEN : PySem.W.nsIn K mainGlobals "MAX_GIVEN" = some (some (.int 3 t_GIVEN)))
    (w_LEAST : PySem.W.nsIn K mainGlobals "MAX_LEAST" = some (some (.int 4 t_LEAST)))
    (w_LONG : PySem.W.nsIn K mainGlobals "MAX_LONG" = some (some (.int 13 t_LONG)))
    (w_NAMES : PySem.W.nsIn K mainGlobals "MAX_NAMES" = some (some (.int 8 t_NAMES)))
    (w_ROAD : PySem.W.nsIn K mainGlobals "MAX_ROAD" = some (some (.int 40 t_ROAD)))
    (w_SHORT : PySem.W.nsIn K mainGlobals "MAX_SHORT" = some (some (.int 5 t_SHORT)))
    (w_SIZE : PySem.W.nsIn K mainGlobals "MAX_SIZE" = some (some (.int 15 t_SIZE)))
    (w_TABLE : PySem.W.nsIn K mainGlobals "MAX_TABLE" = some (some (.int 60 t_TABLE)))
    (w_TRIES : PySem.W.nsIn K mainGlobals "MAX_TRIES" = some (some (.int 20000 t_TRIES)))
    (w_UNLIKE : PySem.W.nsIn K mainGlobals "MAX_UNLIKE" = some (some (.int 6 t_UNLIKE)))
    (w_WORD : PySem.W.nsIn K mainGlobals "MAX_WORD" = some (some (.int 30 t_WORD)))
    : ∃ fd : FuncData, (∀ (s : Shared) (v : Value), BindsTo s fd ⟨[v], []⟩ [("_law_script", v)]) ∧ ∀ base : Heap, K.In base → base.Ns mainGlobals mg → (∃ o, base.get? sysModules = some o) → FnG l.prog w K mg base CX0 25 fa fd ["_law_script"] (spLaw K) := by
  have e := hfa.symm.trans (PySem.W.mg_of X G a6)
  cases e
  have D1 : DefAt K mg "_law_deck" s_law_deck ["_law_script"] := def_mk (PySem.W.mg_of X G a1) l1 c1 k1 fun _ _ _ _ _ _ us hl => match us, hl with | [_], _ => rfl
  have D2 : DefAt K mg "_law_take" s_law_take ["_law_deck_here", "_law_many"] := def_mk (PySem.W.mg_of X G a2) l2 c2 k2 fun _ _ _ _ _ _ us hl => match us, hl with | [_, _], _ => rfl
  have D3 : DefAt K mg "_law_one" s_law_one ["_law_deck_here", "_law_items"] := def_mk (PySem.W.mg_of X G a3) l3 c3 k3 fun _ _ _ _ _ _ us hl => match us, hl with | [_, _], _ => rfl
  have D4 : DefAt K mg "_law_odd" s_law_odd ["_law_deck_here"] := def_mk (PySem.W.mg_of X G a4) l4 c4 k4 fun _ _ _ _ _ _ us hl => match us, hl with | [_], _ => rfl
  have D5 : DefAt K mg "_law_flags" s_law_flags ["_law_error"] := def_mk (PySem.W.mg_of X G a5) l5 c5 k5 fun _ _ _ _ _ _ us hl => match us, hl with | [_], _ => rfl
  have b_isinstance := PySem.W.mg_none_of X G z0
  have b_len := PySem.W.mg_none_of X G z1
  have b_abs := PySem.W.mg_none_of X G z2
  have b_range := PySem.W.mg_none_of X G z3
  have b_repr := PySem.W.mg_none_of X G z4
  have b_list := PySem.W.mg_none_of X G z5
  have b_enumerate := PySem.W.mg_none_of X G z6
  have b_ValueError := PySem.W.mg_none_of X G z7
  have b_LookupError := PySem.W.mg_none_of X G z8
  have b_KeyError := PySem.W.mg_none_of X G z9
  have b_IndexError := PySem.W.mg_none_of X G z10
  generalize eC : (fun i => [C0, C1, C2, C3, C4, C5, C6, C7, C8, C9, C10, C11, C12, C13, C14].getD i 0 : Nat → Addr) = C
  have q0 : C 0 = C0 := by rw [← eC] <;> rfl
  have q1 : C 1 = C1 := by rw [← eC] <;> rfl
  have q2 : C 2 = C2 := by rw [← eC] <;> rfl
  have q3 : C 3 = C3 := by rw [← eC] <;> rfl
  have q4 : C 4 = C4 := by rw [← eC] <;> rfl
  have q5 : C 5 = C5 := by rw [← eC] <;> rfl
  have q6 : C 6 = C6 := by rw [← eC] <;> rfl
  have q7 : C 7 = C7 := by rw [← eC] <;> rfl
  have q8 : C 8 = C8 := by rw [← eC] <;> rfl
  have q9 : C 9 = C9 := by rw [← eC] <;> rfl
  have q10 : C 10 = C10 := by rw [← eC] <;> rfl
  have q11 : C 11 = C11 := by rw [← eC] <;> rfl
  have q12 : C 12 = C12 := by rw [← eC] <;> rfl
  have q13 : C 13 = C13 := by rw [← eC] <;> rfl
  have q14 : C 14 = C14 := by rw [← eC] <;> rfl
  have neT : ∀ i, i < 15 → C i ≠ CT := fun i hi z => nT (by rw [← z, ← eC]; show List.getD _ _ _ ∈ _; rw [List.getD_eq_getElem?_getD, List.getElem?_eq_getElem (show i < [C0, C1, C2, C3, C4, C5, C6, C7, C8, C9, C10, C11, C12, C13, C14].length from hi)]; exact List.getElem_mem _)
  have one : ∀ i, i < 15 → One K (C i) := low_cases (by rw [q0]; exact ⟨xga0, xgg0, xe0, xo0, xy0, xh0, xw0, xr0⟩) (by rw [q1]; exact ⟨xga1, xgg1, xe1, xo1, xy1, xh1, xw1, xr1⟩) (by rw [q2]; exact ⟨xga2, xgg2, xe2, xo2, xy2, xh2, xw2, xr2⟩) (by rw [q3]; exact ⟨xga3, xgg3, xe3, xo3, xy3, xh3, xw3, xr3⟩) (by rw [q4]; exact ⟨xga4, xgg4, xe4, xo4, xy4, xh4, xw4, xr4⟩) (by rw [q5]; exact ⟨xga5, xgg5, xe5, xo5, xy5, xh5, xw5, xr5⟩) (by rw [q6]; exact ⟨xga6, xgg6, xe6, xo6, xy6, xh6, xw6, xr6⟩) (by rw [q7]; exact ⟨xga7, xgg7, xe7, xo7, xy7, xh7, xw7, xr7⟩) (by rw [q8]; exact ⟨xga8, xgg8, xe8, xo8, xy8, xh8, xw8, xr8⟩) (by rw [q9]; exact ⟨xga9, xgg9, xe9, xo9, xy9, xh9, xw9, xr9⟩) (by rw [q10]; exact ⟨xga10, xgg10, xe10, xo10, xy10, xh10, xw10, xr10⟩) (by rw [q11]; exact ⟨xga11, xgg11, xe11, xo11, xy11, xh11, xw11, xr11⟩) (by rw [q12]; exact ⟨xga12, xgg12, xe12, xo12, xy12, xh12, xw12, xr12⟩) (by rw [q13]; exact ⟨xga13, xgg13, xe13, xo13, xy13, xh13, xw13, xr13⟩) (by rw [q14]; exact ⟨xga14, xgg14, xe14, xo14, xy14, xh14, xw14, xr14⟩)
  have mV : ∀ i, i < 15 → i < 12 → Mro K (C i) [.ref CT, .type "ValueError", .type "Exception", .type "BaseException", .type "object"] := low_cases (fun _ => by rw [q0]; exact mro_mk xl0) (fun _ => by rw [q1]; exact mro_mk xl1) (fun _ => by rw [q2]; exact mro_mk xl2) (fun _ => by rw [q3]; exact mro_mk xl3) (fun _ => by rw [q4]; exact mro_mk xl4) (fun _ => by rw [q5]; exact mro_mk xl5) (fun _ => by rw [q6]; exact mro_mk xl6) (fun _ => by rw [q7]; exact mro_mk xl7) (fun _ => by rw [q8]; exact mro_mk xl8) (fun _ => by rw [q9]; exact mro_mk xl9) (fun _ => by rw [q10]; exact mro_mk xl10) (fun _ => by rw [q11]; exact mro_mk xl11) (fun z => absurd z (by decide)) (fun z => absurd z (by decide)) (fun z => absurd z (by decide))
  have mL : ∀ i, i < 15 → ¬ i < 12 → Mro K (C i) [.type "LookupError", .type "Exception", .type "BaseException", .type "object"] := low_cases (fun z => absurd (by decide) z) (fun z => absurd (by decide) z) (fun z => absurd (by decide) z) (fun z => absurd (by decide) z) (fun z => absurd (by decide) z) (fun z => absurd (by decide) z) (fun z => absurd (by decide) z) (fun z => absurd (by decide) z) (fun z => absurd (by decide) z) (fun z => absurd (by decide) z) (fun z => absurd (by decide) z) (fun z => absurd (by decide) z) (fun _ => by rw [q12]; exact mro_mk xl12) (fun _ => by rw [q13]; exact mro_mk xl13) (fun _ => by rw [q14]; exact mro_mk xl14)
  have dij : ∀ i j, i < 15 → j < 15 → decide (C i = C j) = decide (i = j) := fun i j hi hj => by
    rw [← eC]
    exact nth_inj nd (Nat.le_refl _) hi hj
  have kt : ∀ (T : String) (bV bL : Bool), PySem.W.kitMeta T = true → ([.ref CT, .type "ValueError", .type "Exception", .type "BaseException", .type "object"] : List Value).contains (.type T) = bV → ([.type "LookupError", .type "Exception", .type "BaseException", .type "object"] : List Value).contains (.type T) = bL → ∀ i, i < 15 → PySem.W.kitOne K (.ref (C i)) (.type T) = some (if i < 12 then bV else bL) := fun T bV bL hm eV eL i hi => by
    by_cases z : i < 12
    · rw [if_pos z]
      exact kit_ty_at (mV i hi z) hm eV
    · rw [if_neg z]
      exact kit_ty_at (mL i hi z) hm eL
  have tab : Tab K C CT := {
    exd := fun i hi => ⟨(one i hi).xo, (one i hi).ga, (one i hi).gg, (one i hi).xe, (one i hi).xw, gn, gt, (one i hi).xr⟩
    kit := fun i j hi hj => by
      rw [← dij i j hi hj]
      by_cases z : i < 12
      · exact kit_at (mV i hi z) (one j hj).xo (one j hj).xy (con_VE (neT j hj))
      · exact kit_at (mL i hi z) (one j hj).xo (one j hj).xy con_LE
    kT := fun i hi => by
      by_cases z : i < 12
      · rw [decide_eq_true z]
        refine kit_at (mV i hi z) to ty ?_
        rw [List.contains_iff_mem]
        exact List.mem_cons_of_mem _ List.mem_cons_self
      · rw [decide_eq_false z]
        refine kit_at (mL i hi z) to ty ?_
        rw [con_LE]
        exact decide_eq_false (neT i hi)
    kV := fun i hi => by
      rw [kt "ValueError" true false (by decide +kernel) (by rw [cont_VE] <;> decide +kernel) (by decide +kernel) i hi]
      by_cases z : i < 12
      · rw [if_pos z, decide_eq_true z]
      · rw [if_neg z, decide_eq_false z]
    kL := fun i hi => by
      rw [kt "LookupError" false true (by decide +kernel) (by rw [cont_VE] <;> decide +kernel) (by decide +kernel) i hi]
      by_cases z : i < 12
      · rw [if_pos z, decide_eq_false (show ¬ 12 ≤ i by omega)]
      · rw [if_neg z, decide_eq_true (show 12 ≤ i by omega)]
    kK := fun i hi => by
      rw [kt "KeyError" false false (by decide +kernel) (by rw [cont_VE] <;> decide +kernel) (by decide +kernel) i hi]
      exact congrArg some (ite_self _)
    kI := fun i hi => by
      rw [kt "IndexError" false false (by decide +kernel) (by rw [cont_VE] <;> decide +kernel) (by decide +kernel) i hi]
      exact congrArg some (ite_self _) }
  have erF : ∀ i, i < 15 → ErF K (C i) := fun i hi => ⟨(one i hi).ga, (one i hi).gg, (one i hi).xe, (one i hi).xh⟩
  have T0 : PySem.ErV.ErC K C0 "ValueError" "ValueError.__new__" "ValueError.__init__" [.type "ValueError", .type "Exception", .type "BaseException", .type "object"] := ⟨⟨_, _, _, _, _, _, _, _, _, _, _, _, _, _, _, xl0, PySem.ErV.pass_VE, by rw [con_type] <;> first | (rw [cont_VE] <;> decide +kernel) | decide +kernel, cont_VE⟩, PySem.F.excBase_ValueError, xsa0, xk0⟩
  have M0 : ErMk K mg "BadFacts" (C 0) [("number" : Str), ("word" : Str)] := ⟨⟨_, _, _, _, I0, by rw [q0]; exact T0, by rw [q0]; exact PySem.ErV.init_number_word (qn := "BadFacts.__init__") T0 no_0_number no_0_word ⟨_, _, _, _, _, _, _, _, _, _, _, _, _, _, _, _, _, _, _, xf0, xc_0⟩, by rw [q0]; exact xi0, xt0⟩, by rw [q0]; exact PySem.W.mg_of X G xa0, .inr rfl⟩
  have T1 : PySem.ErV.ErC K C1 "ValueError" "ValueError.__new__" "ValueError.__init__" [.type "ValueError", .type "Exception", .type "BaseException", .type "object"] := ⟨⟨_, _, _, _, _, _, _, _, _, _, _, _, _, _, _, xl1, PySem.ErV.pass_VE, by rw [con_type] <;> first | (rw [cont_VE] <;> decide +kernel) | decide +kernel, cont_VE⟩, PySem.F.excBase_ValueError, xsa1, xk1⟩
  have M1 : ErMk K mg "BadFormula" (C 1) [("word" : Str)] := ⟨⟨_, _, _, _, I1, by rw [q1]; exact T1, by rw [q1]; exact PySem.ErV.init_word (qn := "BadFormula.__init__") T1 no_1_word ⟨_, _, _, _, _, _, _, _, _, _, _, _, _, _, xf1, xc_1⟩, by rw [q1]; exact xi1, xt1⟩, by rw [q1]; exact PySem.W.mg_of X G xa1, .inl rfl⟩
  have T2 : PySem.ErV.ErC K C2 "ValueError" "ValueError.__new__" "ValueError.__init__" [.type "ValueError", .type "Exception", .type "BaseException", .type "object"] := ⟨⟨_, _, _, _, _, _, _, _, _, _, _, _, _, _, _, xl2, PySem.ErV.pass_VE, by rw [con_type] <;> first | (rw [cont_VE] <;> decide +kernel) | decide +kernel, cont_VE⟩, PySem.F.excBase_ValueError, xsa2, xk2⟩
  have M2 : ErMk K mg "BadSize" (C 2) [("size" : Str)] := ⟨⟨_, _, _, _, I2, by rw [q2]; exact T2, by rw [q2]; exact PySem.ErV.init_size (qn := "BadSize.__init__") T2 no_2_size ⟨_, _, _, _, _, _, _, _, _, _, _, _, _, _, xf2, xc_2⟩, by rw [q2]; exact xi2, xt2⟩, by rw [q2]; exact PySem.W.mg_of X G xa2, .inl rfl⟩
  have T3 : PySem.ErV.ErC K C3 "ValueError" "ValueError.__new__" "ValueError.__init__" [.type "ValueError", .type "Exception", .type "BaseException", .type "object"] := ⟨⟨_, _, _, _, _, _, _, _, _, _, _, _, _, _, _, xl3, PySem.ErV.pass_VE, by rw [con_type] <;> first | (rw [cont_VE] <;> decide +kernel) | decide +kernel, cont_VE⟩, PySem.F.excBase_ValueError, xsa3, xk3⟩
  have M3 : ErMk K mg "BadText" (C 3) [("line" : Str), ("number" : Str)] := ⟨⟨_, _, _, _, I3, by rw [q3]; exact T3, by rw [q3]; exact PySem.ErV.init_line_number (qn := "BadText.__init__") T3 no_3_line no_3_number ⟨_, _, _, _, _, _, _, _, _, _, _, _, _, _, _, _, _, _, _, xf3, xc_3⟩, by rw [q3]; exact xi3, xt3⟩, by rw [q3]; exact PySem.W.mg_of X G xa3, .inr rfl⟩
  have T4 : PySem.ErV.ErC K C4 "ValueError" "ValueError.__new__" "ValueError.__init__" [.type "ValueError", .type "Exception", .type "BaseException", .type "object"] := ⟨⟨_, _, _, _, _, _, _, _, _, _, _, _, _, _, _, xl4, PySem.ErV.pass_VE, by rw [con_type] <;> first | (rw [cont_VE] <;> decide +kernel) | decide +kernel, cont_VE⟩, PySem.F.excBase_ValueError, xsa4, xk4⟩
  have M4 : ErMk K mg "NoTable" (C 4) [("pair" : Str), ("numbers" : Str)] := ⟨⟨_, _, _, _, I4, by rw [q4]; exact T4, by rw [q4]; exact PySem.ErV.init_pair_numbers (qn := "NoTable.__init__") T4 no_4_pair no_4_numbers ⟨_, _, _, _, _, _, _, _, _, _, _, _, _, _, _, _, _, _, _, xf4, xc_4⟩, by rw [q4]; exact xi4, xt4⟩, by rw [q4]; exact PySem.W.mg_of X G xa4, .inr rfl⟩
  have T5 : PySem.ErV.ErC K C5 "ValueError" "ValueError.__new__" "ValueError.__init__" [.type "ValueError", .type "Exception", .type "BaseException", .type "object"] := ⟨⟨_, _, _, _, _, _, _, _, _, _, _, _, _, _, _, xl5, PySem.ErV.pass_VE, by rw [con_type] <;> first | (rw [cont_VE] <;> decide +kernel) | decide +kernel, cont_VE⟩, PySem.F.excBase_ValueError, xsa5, xk5⟩
  have M5 : ErMk K mg "NotOnce" (C 5) [("name" : Str)] := ⟨⟨_, _, _, _, I5, by rw [q5]; exact T5, by rw [q5]; exact PySem.ErV.init_name (qn := "NotOnce.__init__") T5 no_5_name ⟨_, _, _, _, _, _, _, _, _, _, _, _, _, _, xf5, xc_5⟩, by rw [q5]; exact xi5, xt5⟩, by rw [q5]; exact PySem.W.mg_of X G xa5, .inl rfl⟩
  have T6 : PySem.ErV.ErC K C6 "ValueError" "ValueError.__new__" "ValueError.__init__" [.type "ValueError", .type "Exception", .type "BaseException", .type "object"] := ⟨⟨_, _, _, _, _, _, _, _, _, _, _, _, _, _, _, xl6, PySem.ErV.pass_VE, by rw [con_type] <;> first | (rw [cont_VE] <;> decide +kernel) | decide +kernel, cont_VE⟩, PySem.F.excBase_ValueError, xsa6, xk6⟩
  have M6 : ErMk K mg "Taken" (C 6) [("name" : Str)] := ⟨⟨_, _, _, _, I6, by rw [q6]; exact T6, by rw [q6]; exact PySem.ErV.init_name (qn := "Taken.__init__") T6 no_6_name ⟨_, _, _, _, _, _, _, _, _, _, _, _, _, _, xf6, xc_6⟩, by rw [q6]; exact xi6, xt6⟩, by rw [q6]; exact PySem.W.mg_of X G xa6, .inl rfl⟩
  have T7 : PySem.ErV.ErC K C7 "ValueError" "ValueError.__new__" "ValueError.__init__" [.type "ValueError", .type "Exception", .type "BaseException", .type "object"] := ⟨⟨_, _, _, _, _, _, _, _, _, _, _, _, _, _, _, xl7, PySem.ErV.pass_VE, by rw [con_type] <;> first | (rw [cont_VE] <;> decide +kernel) | decide +kernel, cont_VE⟩, PySem.F.excBase_ValueError, xsa7, xk7⟩
  have M7 : ErMk K mg "TooMany" (C 7) [("limit" : Str)] := ⟨⟨_, _, _, _, I7, by rw [q7]; exact T7, by rw [q7]; exact PySem.ErV.init_limit (qn := "TooMany.__init__") T7 no_7_limit ⟨_, _, _, _, _, _, _, _, _, _, _, _, _, _, xf7, xc_7⟩, by rw [q7]; exact xi7, xt7⟩, by rw [q7]; exact PySem.W.mg_of X G xa7, .inl rfl⟩
  have T8 : PySem.ErV.ErC K C8 "ValueError" "ValueError.__new__" "ValueError.__init__" [.type "ValueError", .type "Exception", .type "BaseException", .type "object"] := ⟨⟨_, _, _, _, _, _, _, _, _, _, _, _, _, _, _, xl8, PySem.ErV.pass_VE, by rw [con_type] <;> first | (rw [cont_VE] <;> decide +kernel) | decide +kernel, cont_VE⟩, PySem.F.excBase_ValueError, xsa8, xk8⟩
  have M8 : ErMk K mg "UnlikeNames" (C 8) [("one" : Str), ("other" : Str)] := ⟨⟨_, _, _, _, I8, by rw [q8]; exact T8, by rw [q8]; exact PySem.ErV.init_one_other (qn := "UnlikeNames.__init__") T8 no_8_one no_8_other ⟨_, _, _, _, _, _, _, _, _, _, _, _, _, _, _, _, _, _, _, xf8, xc_8⟩, by rw [q8]; exact xi8, xt8⟩, by rw [q8]; exact PySem.W.mg_of X G xa8, .inr rfl⟩
  have M9 : ErMk0 K mg "Full" (C 9) := ⟨⟨_, _, _, _, PySem.F.excBase_ValueError, by rw [q9]; exact xx9, by rw [q9]; exact xk9⟩, by rw [q9]; exact PySem.W.mg_of X G xa9⟩
  have M10 : ErMk0 K mg "NothingToUndo" (C 10) := ⟨⟨_, _, _, _, PySem.F.excBase_ValueError, by rw [q10]; exact xx10, by rw [q10]; exact xk10⟩, by rw [q10]; exact PySem.W.mg_of X G xa10⟩
  have T11 : PySem.ErV.ErC K C11 "ValueError" "ValueError.__new__" "ValueError.__init__" [.type "ValueError", .type "Exception", .type "BaseException", .type "object"] := ⟨⟨_, _, _, _, _, _, _, _, _, _, _, _, _, _, _, xl11, PySem.ErV.pass_VE, by rw [con_type] <;> first | (rw [cont_VE] <;> decide +kernel) | decide +kernel, cont_VE⟩, PySem.F.excBase_ValueError, xsa11, xk11⟩
  have M11 : ErMk K mg "TornGivens" (C 11) [("numbers" : Str)] := ⟨⟨_, _, _, _, I11, by rw [q11]; exact T11, by rw [q11]; exact PySem.ErV.init_numbers (qn := "TornGivens.__init__") T11 no_11_numbers ⟨_, _, _, _, _, _, _, _, _, _, _, _, _, _, xf11, xc_11⟩, by rw [q11]; exact xi11, xt11⟩, by rw [q11]; exact PySem.W.mg_of X G xa11, .inl rfl⟩
  have T12 : PySem.ErV.ErC K C12 "LookupError" "LookupError.__new__" "LookupError.__init__" [.type "LookupError", .type "Exception", .type "BaseException", .type "object"] := ⟨⟨_, _, _, _, _, _, _, _, _, _, _, _, _, _, _, xl12, PySem.ErV.pass_LE, by rw [con_type] <;> first | (rw [cont_VE] <;> decide +kernel) | decide +kernel, fun X => rfl⟩, PySem.F.excBase_LookupError, xsa12, xk12⟩
  have M12 : ErMk K mg "NoClaim" (C 12) [("number" : Str)] := ⟨⟨_, _, _, _, I12, by rw [q12]; exact T12, by rw [q12]; exact PySem.ErV.init_number (qn := "NoClaim.__init__") T12 no_12_number ⟨_, _, _, _, _, _, _, _, _, _, _, _, _, _, xf12, xc_12⟩, by rw [q12]; exact xi12, xt12⟩, by rw [q12]; exact PySem.W.mg_of X G xa12, .inl rfl⟩
  have T13 : PySem.ErV.ErC K C13 "LookupError" "LookupError.__new__" "LookupError.__init__" [.type "LookupError", .type "Exception", .type "BaseException", .type "object"] := ⟨⟨_, _, _, _, _, _, _, _, _, _, _, _, _, _, _, xl13, PySem.ErV.pass_LE, by rw [con_type] <;> first | (rw [cont_VE] <;> decide +kernel) | decide +kernel, fun X => rfl⟩, PySem.F.excBase_LookupError, xsa13, xk13⟩
  have M13 : ErMk K mg "NoEntry" (C 13) [("number" : Str)] := ⟨⟨_, _, _, _, I13, by rw [q13]; exact T13, by rw [q13]; exact PySem.ErV.init_number (qn := "NoEntry.__init__") T13 no_13_number ⟨_, _, _, _, _, _, _, _, _, _, _, _, _, _, xf13, xc_13⟩, by rw [q13]; exact xi13, xt13⟩, by rw [q13]; exact PySem.W.mg_of X G xa13, .inl rfl⟩
  have T14 : PySem.ErV.ErC K C14 "LookupError" "LookupError.__new__" "LookupError.__init__" [.type "LookupError", .type "Exception", .type "BaseException", .type "object"] := ⟨⟨_, _, _, _, _, _, _, _, _, _, _, _, _, _, _, xl14, PySem.ErV.pass_LE, by rw [con_type] <;> first | (rw [cont_VE] <;> decide +kernel) | decide +kernel, fun X => rfl⟩, PySem.F.excBase_LookupError, xsa14, xk14⟩
  have M14 : ErMk K mg "NoPair" (C 14) [("number" : Str)] := ⟨⟨_, _, _, _, I14, by rw [q14]; exact T14, by rw [q14]; exact PySem.ErV.init_number (qn := "NoPair.__init__") T14 no_14_number ⟨_, _, _, _, _, _, _, _, _, _, _, _, _, _, xf14, xc_14⟩, by rw [q14]; exact xi14, xt14⟩, by rw [q14]; exact PySem.W.mg_of X G xa14, .inl rfl⟩
  have FL := fun_mk (st := slaw) l6 c6 k6
  refine ⟨PySem.W.fnOf "law" "law" (defArgs slaw) (defBody slaw) (defScope slaw) .none kV6 dc6 pm6 an6 cd6 ct6, fun s v => .of_eq rfl, fun base _ _ hsys => ?_⟩
  have c1 := ok_deck (P := l.prog) (w := w) (base := base) D1 b_len b_abs b_list
  have c2 := ok_take (P := l.prog) (w := w) (base := base) D2 b_len
  have c3 := ok_one D3 c2 b_len
  have c4 := ok_odd D4 c3
  have c5 := ok_flags (P := l.prog) (w := w) (base := base) D5 tab b_isinstance (by rw [q0]; exact PySem.W.mg_of X G xa0) (by rw [q1]; exact PySem.W.mg_of X G xa1) (by rw [q2]; exact PySem.W.mg_of X G xa2) (by rw [q3]; exact PySem.W.mg_of X G xa3) (by rw [q4]; exact PySem.W.mg_of X G xa4) (by rw [q5]; exact PySem.W.mg_of X G xa5) (by rw [q6]; exact PySem.W.mg_of X G xa6) (by rw [q7]; exact PySem.W.mg_of X G xa7) (by rw [q8]; exact PySem.W.mg_of X G xa8) (by rw [q9]; exact PySem.W.mg_of X G xa9) (by rw [q10]; exact PySem.W.mg_of X G xa10) (by rw [q11]; exact PySem.W.mg_of X G xa11) (by rw [q12]; exact PySem.W.mg_of X G xa12) (by rw [q13]; exact PySem.W.mg_of X G xa13) (by rw [q14]; exact PySem.W.mg_of X G xa14)
  exact ok_law FL tab erF (PySem.W.mg_of X G ta) M0 (by rw [q0]; exact no_0_number) (by rw [q0]; exact no_0_word) M1 (by rw [q1]; exact no_1_word) M2 (by rw [q2]; exact no_2_size) M3 (by rw [q3]; exact no_3_line) (by rw [q3]; exact no_3_number) M4 (by rw [q4]; exact no_4_pair) (by rw [q4]; exact no_4_numbers) M5 (by rw [q5]; exact no_5_name) M6 (by rw [q6]; exact no_6_name) M7 (by rw [q7]; exact no_7_limit) M8 (by rw [q8]; exact no_8_one) (by rw [q8]; exact no_8_other) M9 M10 M11 (by rw [q11]; exact no_11_numbers) M12 (by rw [q12]; exact no_12_number) M13 (by rw [q13]; exact no_13_number) M14 (by rw [q14]; exact no_14_number) (PySem.W.mg_of X G w_CLAIMS) (PySem.W.mg_of X G w_EDITS) (PySem.W.mg_of X G w_ENTRIES) (PySem.W.mg_of X G w_FEW) (PySem.W.mg_of X G w_GIVEN) (PySem.W.mg_of X G w_LEAST) (PySem.W.mg_of X G w_LONG) (PySem.W.mg_of X G w_NAMES) (PySem.W.mg_of X G w_ROAD) (PySem.W.mg_of X G w_SHORT) (PySem.W.mg_of X G w_SIZE) (PySem.W.mg_of X G w_TABLE) (PySem.W.mg_of X G w_TRIES) (PySem.W.mg_of X G w_UNLIKE) (PySem.W.mg_of X G w_WORD) hsys c1 c3 c4 c5 b_range b_repr b_isinstance b_list b_enumerate b_ValueError b_LookupError b_KeyError b_IndexError
end K56
open PySem PySem.W PyProof.Rows
set_option maxHeartbeats 0 in
theorem PySem.Challenge.cw_solvedbothsides_k56_errors_and_bounds_holds : PySem.Challenge.rw_solvedbothsides_k56_errors_and_bounds.Holds := by
  w_on; o_law; k_head; (case hw => w_witness2)
  k_fill
  refine VK.walk_g (l := PySem.Challenge.rw_solvedbothsides_k56_errors_and_bounds) (n := 63) (k := 25) (x := "_law_script") (sp := fun w => K56.spLaw _) (by decide +kernel) rfl (by decide) rfl ⟨rfl, by decide, by decide⟩ (fun w h Y => PySem.W.kIn_of Y) ?F (fun _ H a ns hl _ _ hS => ⟨a, ns, rfl, hS, hl, fun _ => rfl⟩)
  case F =>
    intro w mg fa h KX G hmg
    refine' K56.all_mk KX G hmg ?a1 ?l1 ?c1 ?k1 ?a2 ?l2 ?c2 ?k2 ?a3 ?l3 ?c3 ?k3 ?a4 ?l4 ?c4 ?k4 ?a5 ?l5 ?c5 ?k5 ?a6 ?l6 ?c6 ?k6 ?z0 ?z1 ?z2 ?z3 ?z4 ?z5 ?z6 ?z7 ?z8 ?z9 ?z10 ?xa0 ?xl0 ?xga0 ?xgg0 ?xk0 ?xe0 ?xy0 ?xh0 ?xo0 ?xw0 ?xr0 ?xsa0 ?no_0_number ?no_0_word ?xi0 ?xt0 ?xf0 ?xc_0 ?xa1 ?xl1 ?xga1 ?xgg1 ?xk1 ?xe1 ?xy1 ?xh1 ?xo1 ?xw1 ?xr1 ?xsa1 ?no_1_word ?xi1 ?xt1 ?xf1 ?xc_1 ?xa2 ?xl2 ?xga2 ?xgg2 ?xk2 ?xe2 ?xy2 ?xh2 ?xo2 ?xw2 ?xr2 ?xsa2 ?no_2_size ?xi2 ?xt2 ?xf2 ?xc_2 ?xa3 ?xl3 ?xga3 ?xgg3 ?xk3 ?xe3 ?xy3 ?xh3 ?xo3 ?xw3 ?xr3 ?xsa3 ?no_3_line ?no_3_number ?xi3 ?xt3 ?xf3 ?xc_3 ?xa4 ?xl4 ?xga4 ?xgg4 ?xk4 ?xe4 ?xy4 ?xh4 ?xo4 ?xw4 ?xr4 ?xsa4 ?no_4_pair ?no_4_numbers ?xi4 ?xt4 ?xf4 ?xc_4 ?xa5 ?xl5 ?xga5 ?xgg5 ?xk5 ?xe5 ?xy5 ?xh5 ?xo5 ?xw5 ?xr5 ?xsa5 ?no_5_name ?xi5 ?xt5 ?xf5 ?xc_5 ?xa6 ?xl6 ?xga6 ?xgg6 ?xk6 ?xe6 ?xy6 ?xh6 ?xo6 ?xw6 ?xr6 ?xsa6 ?no_6_name ?xi6 ?xt6 ?xf6 ?xc_6 ?xa7 ?xl7 ?xga7 ?xgg7 ?xk7 ?xe7 ?xy7 ?xh7 ?xo7 ?xw7 ?xr7 ?xsa7 ?no_7_limit ?xi7 ?xt7 ?xf7 ?xc_7 ?xa8 ?xl8 ?xga8 ?xgg8 ?xk8 ?xe8 ?xy8 ?xh8 ?xo8 ?xw8 ?xr8 ?xsa8 ?no_8_one ?no_8_other ?xi8 ?xt8 ?xf8 ?xc_8 ?xa9 ?xl9 ?xga9 ?xgg9 ?xk9 ?xe9 ?xy9 ?xh9 ?xo9 ?xw9 ?xr9 ?xx9 ?xa10 ?xl10 ?xga10 ?xgg10 ?xk10 ?xe10 ?xy10 ?xh10 ?xo10 ?xw10 ?xr10 ?xx10 ?xa11 ?xl11 ?xga11 ?xgg11 ?xk11 ?xe11 ?xy11 ?xh11 ?xo11 ?xw11 ?xr11 ?xsa11 ?no_11_numbers ?xi11 ?xt11 ?xf11 ?xc_11 ?xa12 ?xl12 ?xga12 ?xgg12 ?xk12 ?xe12 ?xy12 ?xh12 ?xo12 ?xw12 ?xr12 ?xsa12 ?no_12_number ?xi12 ?xt12 ?xf12 ?xc_12 ?xa13 ?xl13 ?xga13 ?xgg13 ?xk13 ?xe13 ?xy13 ?xh13 ?xo13 ?xw13 ?xr13 ?xsa13 ?no_13_number ?xi13 ?xt13 ?xf13 ?xc_13 ?xa14 ?xl14 ?xga14 ?xgg14 ?xk14 ?xe14 ?xy14 ?xh14 ?xo14 ?xw14 ?xr14 ?xsa14 ?no_14_number ?xi14 ?xt14 ?xf14 ?xc_14 ?ta ?to ?ty ?gn ?gt ?nd ?nT ?w_CLAIMS ?w_EDITS ?w_ENTRIES ?w_FEW ?w_GIVEN ?w_LEAST ?w_LONG ?w_NAMES ?w_ROAD ?w_SHORT ?w_SIZE ?w_TABLE ?w_TRIES ?w_UNLIKE ?w_WORD
    (case a1 => k_is); (case l1 => k_is); (case c1 => k_is); (case k1 => k_is); (case a2 => k_is); (case l2 => k_is); (case c2 => k_is); (case k2 => k_is); (case a3 => k_is); (case l3 => k_is); (case c3 => k_is); (case k3 => k_is); (case a4 => k_is); (case l4 => k_is); (case c4 => k_is); (case k4 => k_is); (case a5 => k_is); (case l5 => k_is); (case c5 => k_is); (case k5 => k_is); (case a6 => k_is); (case l6 => k_is); (case c6 => k_is); (case k6 => k_is); (case z0 => k_is); (case z1 => k_is); (case z2 => k_is); (case z3 => k_is); (case z4 => k_is); (case z5 => k_is); (case z6 => k_is); (case z7 => k_is); (case z8 => k_is); (case z9 => k_is); (case z10 => k_is); (case xa0 => k_is); (case xl0 => k_is); (case xga0 => k_is); (case xgg0 => k_is); (case xk0 => k_is); (case xe0 => k_is); (case xy0 => k_is); (case xh0 => k_is); (case xo0 => k_is); (case xw0 => k_is); (case xr0 => k_is); (case xsa0 => k_is); (case no_0_number => k_is); (case no_0_word => k_is); (case xi0 => k_is); (case xt0 => k_is); (case xf0 => k_is); (case xc_0 => k_is); (case xa1 => k_is); (case xl1 => k_is); (case xga1 => k_is); (case xgg1 => k_is); (case xk1 => k_is); (case xe1 => k_is); (case xy1 => k_is); (case xh1 => k_is); (case xo1 => k_is); (case xw1 => k_is); (case xr1 => k_is); (case xsa1 => k_is); (case no_1_word => k_is); (case xi1 => k_is); (case xt1 => k_is); (case xf1 => k_is); (case xc_1 => k_is); (case xa2 => k_is); (case xl2 => k_is); (case xga2 => k_is); (case xgg2 => k_is); (case xk2 => k_is); (case xe2 => k_is); (case xy2 => k_is); (case xh2 => k_is); (case xo2 => k_is); (case xw2 => k_is); (case xr2 => k_is); (case xsa2 => k_is); (case no_2_size => k_is); (case xi2 => k_is); (case xt2 => k_is); (case xf2 => k_is); (case xc_2 => k_is); (case xa3 => k_is); (case xl3 => k_is); (case xga3 => k_is); (case xgg3 => k_is); (case xk3 => k_is); (case xe3 => k_is); (case xy3 => k_is); (case xh3 => k_is); (case xo3 => k_is); (case xw3 => k_is); (case xr3 => k_is); (case xsa3 => k_is); (case no_3_line => k_is); (case no_3_number => k_is); (case xi3 => k_is); (case xt3 => k_is); (case xf3 => k_is); (case xc_3 => k_is); (case xa4 => k_is); (case xl4 => k_is); (case xga4 => k_is); (case xgg4 => k_is); (case xk4 => k_is); (case xe4 => k_is); (case xy4 => k_is); (case xh4 => k_is); (case xo4 => k_is); (case xw4 => k_is); (case xr4 => k_is); (case xsa4 => k_is); (case no_4_pair => k_is); (case no_4_numbers => k_is); (case xi4 => k_is); (case xt4 => k_is); (case xf4 => k_is); (case xc_4 => k_is); (case xa5 => k_is); (case xl5 => k_is); (case xga5 => k_is); (case xgg5 => k_is); (case xk5 => k_is); (case xe5 => k_is); (case xy5 => k_is); (case xh5 => k_is); (case xo5 => k_is); (case xw5 => k_is); (case xr5 => k_is); (case xsa5 => k_is); (case no_5_name => k_is); (case xi5 => k_is); (case xt5 => k_is); (case xf5 => k_is); (case xc_5 => k_is); (case xa6 => k_is); (case xl6 => k_is); (case xga6 => k_is); (case xgg6 => k_is); (case xk6 => k_is); (case xe6 => k_is); (case xy6 => k_is); (case xh6 => k_is); (case xo6 => k_is); (case xw6 => k_is); (case xr6 => k_is); (case xsa6 => k_is); (case no_6_name => k_is); (case xi6 => k_is); (case xt6 => k_is); (case xf6 => k_is); (case xc_6 => k_is); (case xa7 => k_is); (case xl7 => k_is); (case xga7 => k_is); (case xgg7 => k_is); (case xk7 => k_is); (case xe7 => k_is); (case xy7 => k_is); (case xh7 => k_is); (case xo7 => k_is); (case xw7 => k_is); (case xr7 => k_is); (case xsa7 => k_is); (case no_7_limit => k_is); (case xi7 => k_is); (case xt7 => k_is); (case xf7 => k_is); (case xc_7 => k_is); (case xa8 => k_is); (case xl8 => k_is); (case xga8 => k_is); (case xgg8 => k_is); (case xk8 => k_is); (case xe8 => k_is); (case xy8 => k_is); (case xh8 => k_is); (case xo8 => k_is); (case xw8 => k_is); (case xr8 => k_is); (case xsa8 => k_is); (case no_8_one => k_is); (case no_8_other => k_is); (case xi8 => k_is); (case xt8 => k_is); (case xf8 => k_is); (case xc_8 => k_is); (case xa9 => k_is); (case xl9 => k_is); (case xga9 => k_is); (case xgg9 => k_is); (case xk9 => k_is); (case xe9 => k_is); (case xy9 => k_is); (case xh9 => k_is); (case xo9 => k_is); (case xw9 => k_is); (case xr9 => k_is); (case xx9 => k_exc); (case xa10 => k_is); (case xl10 => k_is); (case xga10 => k_is); (case xgg10 => k_is); (case xk10 => k_is); (case xe10 => k_is); (case xy10 => k_is); (case xh10 => k_is); (case xo10 => k_is); (case xw10 => k_is); (case xr10 => k_is); (case xx10 => k_exc); (case xa11 => k_is); (case xl11 => k_is); (case xga11 => k_is); (case xgg11 => k_is); (case xk11 => k_is); (case xe11 => k_is); (case xy11 => k_is); (case xh11 => k_is); (case xo11 => k_is); (case xw11 => k_is); (case xr11 => k_is); (case xsa11 => k_is); (case no_11_numbers => k_is); (case xi11 => k_is); (case xt11 => k_is); (case xf11 => k_is); (case xc_11 => k_is); (case xa12 => k_is); (case xl12 => k_is); (case xga12 => k_is); (case xgg12 => k_is); (case xk12 => k_is); (case xe12 => k_is); (case xy12 => k_is); (case xh12 => k_is); (case xo12 => k_is); (case xw12 => k_is); (case xr12 => k_is); (case xsa12 => k_is); (case no_12_number => k_is); (case xi12 => k_is); (case xt12 => k_is); (case xf12 => k_is); (case xc_12 => k_is); (case xa13 => k_is); (case xl13 => k_is); (case xga13 => k_is); (case xgg13 => k_is); (case xk13 => k_is); (case xe13 => k_is); (case xy13 => k_is); (case xh13 => k_is); (case xo13 => k_is); (case xw13 => k_is); (case xr13 => k_is); (case xsa13 => k_is); (case no_13_number => k_is); (case xi13 => k_is); (case xt13 => k_is); (case xf13 => k_is); (case xc_13 => k_is); (case xa14 => k_is); (case xl14 => k_is); (case xga14 => k_is); (case xgg14 => k_is); (case xk14 => k_is); (case xe14 => k_is); (case xy14 => k_is); (case xh14 => k_is); (case xo14 => k_is); (case xw14 => k_is); (case xr14 => k_is); (case xsa14 => k_is); (case no_14_number => k_is); (case xi14 => k_is); (case xt14 => k_is); (case xf14 => k_is); (case xc_14 => k_is); (case ta => k_is); (case to => k_is); (case ty => k_is); (case gn => k_is); (case gt => k_is); (case nd => decide +kernel); (case nT => decide +kernel); (case w_CLAIMS => k_is); (case w_EDITS => k_is); (case w_ENTRIES => k_is); (case w_FEW => k_is); (case w_GIVEN => k_is); (case w_LEAST => k_is); (case w_LONG => k_is); (case w_NAMES => k_is); (case w_ROAD => k_is); (case w_SHORT => k_is); (case w_SIZE => k_is); (case w_TABLE => k_is); (case w_TRIES => k_is); (case w_UNLIKE => k_is); (case w_WORD => k_is)
