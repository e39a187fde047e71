import PyProof.Rows.All
import Wide.All
import OpenK.AllK
import Wide.FinOn
import HandS.ForMost
import HandS.ForExc
import HandS.IsInst
import HandS.CallLocal
import HandS.Wide
import HandS.WideBits
import HandS.Flow
import HandS.EndBits
import HandS.WrittenGet
import PyProof.ReprRoads
import HandS.More
import HandS.Walk
import PyProof.Rows.RegFStrParts
import KE.KSuper
import KE.KExcSuper
import HandS.ExcInit
import HandS.ExcIs
import HandS.ExcField
import KE.KExcIs
import HandS.WordsExc
import HandS.ExcValue
import KE.KExcPX
import HandS.Text
import HandS.StrMore
import PyProof.Rows.StrIntSpec
import HandS.TryOnly
import PyProof.ListStr
import PyProof.StrOps2
import HandS.List
import KE.RegKSuper
import PySem.Challenge.RW_cellbills_k08_whole_tokens
set_option Elab.async false
set_option linter.all false
set_option maxRecDepth 100000
set_option maxHeartbeats 4000000
/-! What the layer lacks: defs that may ask for a text of a list (they want to know that no such asking is under way), // by any number that is not 0, great powers, calls by keywords alone, repr of data. -/
namespace Cb
open PySem PySem.Spec PyProof.Rows L2

/-! ### numbers -/
def DivAny (_ j : Int) : Prop := j ≠ 0 ∧ j.natAbs.log2 < 9000
def PowAny (i j : Int) : Prop := 0 ≤ j ∧ (Builtin.Int.intBits i : Int) * j ≤ 2 ^ 27
section
variable {X : Cx}
theorem op_fdivA : OpR X (binaryOp .FloorDiv) (rI DivAny fun i j => .int (i.fdiv j)) :=
  opI fun _ _ _ _ _ _ _ hd q => floordiv_int hd.1 q (.inl (PyProof.noPylong_of_log2 hd.2))
theorem op_powA : OpR X (binaryOp .Pow) (rI PowAny fun i j => .int (i ^ j.toNat)) :=
  opI fun _ _ _ _ _ _ _ hd q => pow_int hd.1 hd.2 q
end

/-! ### a text of data -/
@[irreducible] def rRepr (K : PySem.W.Frag) (u : Nat) : List V → Hp → VK → Prop := fun vs H Q =>
  ∃ (v : V) (d : PyData), vs = [v] ∧ Dp K H v d ∧ d.showable = true ∧ d.hasDict = false ∧ u + (d.depth + 1) < cLine ∧ ((∃ i, d = .int i) ∨ d.shown.length ≤ sizeLine) ∧ Q (.str d.shown) H
section
variable {X : Cx}
theorem call_repr (hg : X.A.guards = some []) : CallR X (.builtin "repr") (rRepr X.K X.A.units) := by
  intro pins s σ H vs us Q I rel h
  unfold rRepr at h
  obtain ⟨v, d, rfl, hd, hs, hn, hu, hz, q⟩ := h
  obtain ⟨u, rfl, ru⟩ := vals1 rel
  obtain ⟨as, rd⟩ := Dp.reads I d v u hd ru
  cases hd with
  | non =>
    cases ru
    exact PySem.P.repr_of_none ⟨.str "None", H, I.tok _, ⟨_, rfl⟩, q⟩
  | bl b =>
    cases ru
    exact PySem.P.repr_of_bool ⟨.str (PyData.shown (.bool b)), H, I.tok _, ⟨_, rfl⟩, q⟩
  | int i =>
    obtain ⟨t, rfl⟩ := ru
    have hi : i.natAbs.log2 < 1920 := of_decide_eq_true hs
    exact PySem.P.repr_of_int hi ⟨.str (PyData.shown (.int i)), H, I.tok _, ⟨_, rfl⟩, q⟩
  | str x =>
    obtain ⟨t, rfl⟩ := ru
    exact PySem.P.repr_of_str ⟨.str (PyData.shown (.str x)), H, I.tok _, ⟨_, rfl⟩, q⟩ (hz.resolve_left fun ⟨_, z⟩ => nomatch z)
  | lst e1 e2 =>
    cases ru
    exact repr_of_reads' rd hs (PyData.noDict_hsm hn) hg hu (fun _ _ z => z) (fun h' w tk hk => ⟨.str (PyData.shown _), H, I.kept hk, ⟨_, rfl⟩, q⟩) (hz.resolve_left fun ⟨_, z⟩ => nomatch z)
  | tup e1 e2 =>
    cases ru
    exact repr_of_reads' rd hs (PyData.noDict_hsm hn) hg hu (fun _ _ z => z) (fun h' w tk hk => ⟨.str (PyData.shown _), H, I.kept hk, ⟨_, rfl⟩, q⟩) (hz.resolve_left fun ⟨_, z⟩ => nomatch z)
end

/-! ### defs that want to know what is under way -/
structure FnG (P : Program) (w : World) (K : PySem.W.Frag) (mg : Str → Option Value) (base : Heap) (c : CXT) (k : Nat) (f : Addr) (fd : FuncData) (ps : List Str) (sp : Sp) : Prop where
  long : ∀ vs H Q E, sp vs H Q E → vs.length = ps.length
  goes : ∀ A : Around, A.guards = some [] → Room k A → ∀ (around : List Env) (s : Shared) (H : Hp) (given : Args) (us : List Value) (vs : List V) (Q : VK) (E : XK),
    Env0 P w K mg base A around s H → BindsTo s fd given (ps.zip us) → Vals vs us → sp vs H Q E →
    codeAny (model P w) A (.call (.ref f) given) (CR c around P w H s Q E) s
theorem FnG.up {P : Program} {w : World} {K : PySem.W.Frag} {mg : Str → Option Value} {base : Heap} {c : CXT} {j k : Nat} {f : Addr} {fd : FuncData} {ps : List Str} {sp : Sp}
    (G : FnG P w K mg base c j f fd ps sp) (le : j ≤ k) : FnG P w K mg base c k f fd ps sp :=
  { long := G.long, goes := fun A ga room => G.goes A ga (room.mono le) }
section
variable {X : Cx} {c : CXT} {k : Nat} {f : Addr} {fd : FuncData} {ps : List Str} {sp : Sp} {dvs : List V} {ds : List Value} {E : XK} {x : Str} {p pos : Pos} {e : Expr} {es : List Expr} {t : TA}
theorem runs_g {pins : List (Addr × Obj)} {σ : L2.St} {H : Hp} {s : Shared} {Q : VK} {us : List Value} {vs : List V} (G : FnG X.prog X.w X.K X.mg X.base c k f fd ps sp) (ga : X.A.guards = some []) (room : Room k X.A)
    (bd : Binds X.K fd ps ds) (hd : Vals dvs ds) (out : Passes c X E) (I : Inv X pins σ H s) (rel : Vals vs us) (pr : sp (vs ++ dvs) H Q E) :
    wpAny (model X.prog X.w) X.A (call (.ref f) us) (EP X pins σ Q) X.xe s := by
  have all := rel.append hd
  have many : (us ++ ds).length = ps.length := all.length ▸ G.long _ _ _ _ pr
  refine wpAny_call (codeAny_mono (G.goes X.A ga room X.stack s H ⟨us, []⟩ _ _ Q E I.env0 (bd s us I.kIn many) all pr) ?_)
  intro res s2 got
  match res, got with
  | .error err, got => exact out pins σ H s err s2 I got
  | .ok (.ret u), got => exact I.after got
theorem pe_callG (G : FnG X.prog X.w X.K X.mg X.base c k f fd ps sp) (ga : X.A.guards = some []) (room : Room k X.A) (gl : Gl X x) (mm : X.mg x = some (.ref f)) (kk : PySem.W.keepIn X.K (.ref f) = true)
    (bd : Binds X.K fd ps ds) (hd : Vals dvs ds) (out : Passes c X E) (ha : PA X (e :: es) t) (nd : (x == ("__debug__" : Str)) = false := by decide)
    (se : starEach (e :: es) X.env = (false, eval e X.env) :: starEach es X.env := by rfl) (pl : (backTo pos (starEach es X.env)).any (·.1) = false := by rfl) :
    PE X (.Call (.Name x p) (e :: es) [] pos) (tCall sp dvs E t) := by
  constructor
  intro pins s σ H Q I pr
  refine wpAny_Call_Name_kw (ld_glob I gl mm (PySem.W.callWith_K (h₀ := X.base) I.ok.mod.kin kk ?_ se pl) nd)
  refine thn (ha.run pos pins s σ H _ I pr) ?_
  rintro us s1 ⟨vs, H1, J, rel, pr1⟩
  exact ⟨J.kIn, runs_g G ga room bd hd out J rel pr1⟩
end
/-! f(k = v, ..) -/
section
variable {X : Cx} {c : CXT} {k : Nat} {f : Addr} {fd : FuncData} {ps ks : List Str} {sp : Sp} {E : XK} {x : Str} {p pos : Pos} {kws : List Keyword} {tk : TA} {g : List Value → List Value → List Value} {gV : List V → List V → List V}
theorem pe_callK0 (F : FnOk X.prog X.w X.K X.mg X.base c k f fd ps sp) (room : Room k X.A) (gl : Gl X x) (mm : X.mg x = some (.ref f)) (kk : PySem.W.keepIn X.K (.ref f) = true) (kb : KBinds X.K fd ps ks g gV) (out : Passes c X E) (hk : PK X kws tk)
    (named : (backToKw pos (keywordEach kws X.env)).all (·.1.isSome) = true := by rfl) (names : (backToKw pos (keywordEach kws X.env)).filterMap (·.1) = ks := by rfl) (nd : (x == ("__debug__" : Str)) = false := by decide)
    (pl : ((backTo pos (starEach [] X.env)).any (·.1) || (backToKw pos (keywordEach kws X.env)).any (·.1.isNone)) = false := by rfl) :
    PE X (.Call (.Name x p) [] kws pos) (tCallK sp gV E tNil tk) := by
  constructor
  intro pins s σ H Q I pr
  refine wpAny_Call_Name_kw (ld_glob I gl mm (PySem.W.callWith_KW0 (h₀ := X.base) I.ok.mod.kin kk named ?_ pl) nd)
  refine thn (hk.run pos pins s σ H _ I pr) ?_
  rintro ws s1 ⟨zs, H1, J, rel, pr1⟩
  refine ⟨J.kIn, ?_⟩
  rw [names]
  exact run_fnk (us := []) (vs := []) F room kb out J .nil rel pr1
end
/-- a def of the text that wants to know it -/
theorem fun_g {P : Program} {w : World} {K : PySem.W.Frag} {mg : Str → Option Value} {base : Heap} {c : CXT} {x qual : Str} {st : Stmt} {f : Addr} {fd : FuncData} {N ps : List Str} {k : Nat} {sp : Sp}
    (F : Fun K x qual st f fd) (S : FnScope N ps (defScope st)) (long : ∀ vs H Q E, sp vs H Q E → vs.length = ps.length)
    (body : ∀ (cdv : Value) (A : Around) (around : List Env) (s : Shared) (H : Hp) (vs : List V) (Q : VK) (E : XK), A.guards = some [] → Room k (A.deeper (envOfC qual (defScope st) s.heap.objs.size f cdv)) → sp vs H Q E →
      ∃ t, PSs (cxOf c P w K mg base N qual (defScope st) f cdv A around s H E) (defBody st) t ∧ t { nx := fun _ H' => Q .non H', rt := Q } (start N vs) H) :
    FnG P w K mg base c (k + 1) f fd ps sp := by
  obtain ⟨oc, od, kV, doc, pm, an, cdv, ct, osl, rfl, lk, hcd⟩ := F.ex
  refine ⟨long, ?_⟩
  intro A ga room around s H given us vs Q E z0 bd rel pr
  have KX : K.In s.heap := z0.mod.kin.keeps fun b o q => (z0.bs b o q).1
  have lim : s.heap.NoLimit := z0.mod.nolimit.keeps fun b o q => (z0.bs b o q).1
  have where_ : ∀ y ∈ ps.zip us, (defScope st).names.lookup y.1 = some .local ∨ ((defScope st).names.lookup y.1 = some .cell ∧ ((cellsFrom (s.heap.objs.size + 1) (defScope st).names []).lookup y.1).isSome = true) := by
    rintro ⟨n, v⟩ hy
    exact (S.par n (List.of_mem_zip hy).1).imp_right fun q => ⟨q, PySem.W.cellsFrom_some _ _ _ (.inl q)⟩
  refine codeAny_call_function room.depth (KX _ _ lk) rfl S.co S.gen rfl (PySem.W.codeRec_of KX hcd) (bd _ _ _ _ (wpAny_newFunctionEnv_cells S.kind where_ ?_))
  rintro env rfl s1 fresh
  refine ⟨lim.keeps fresh.toInCall.keep, codeAny_func ?_⟩
  obtain ⟨t, ht, hq⟩ := body cdv A around s H vs Q E ga (room.deeper _) pr
  have J : Inv (cxOf c P w K mg base N qual (defScope st) f cdv A around s H E) [] (start N vs) H s1 := inv_start S room.hd z0 (long _ _ _ _ pr) rel fresh
  refine wpAny_mono (ht.run [] s1 (start N vs) H _ J hq) ?_ (fun _ _ z => z)
  intro fl s2 got
  match fl, got with
  | .ret u, ⟨v, σ2, H2, L, rv, q⟩ => exact ⟨v, H2, L.os, L.bare, L.base, L.hok, rv, q⟩
  | .next, ⟨σ2, H2, L, q⟩ => exact ⟨V.non, H2, L.os, L.bare, L.base, L.hok, rfl, q⟩
  | .brk, ⟨_, _, _, q⟩ => exact q.elim
  | .cont, ⟨_, _, _, q⟩ => exact q.elim
end Cb
set_option Elab.async false
set_option linter.all false
set_option maxRecDepth 100000
set_option maxHeartbeats 4000000
namespace Cb
open PySem PySem.Spec PyProof.Rows L2
section
variable {P : Program} {w : World} {K : PySem.W.Frag} {mg mb : Str → Option Value} {k : Nat} {fa a : Addr} {fd : FuncData} {x : Str} {sp : Sp} {s : Shared} {vs : List Value} {ns : List Int}
/-- the law's def, called with the script, from an abstract heap that knows at most the script -/
theorem enters (H : Hp) (ob : Obj) (eo : ob = { cls := .type "list", data := .seq vs.toArray }) (H1 : ∀ b u, H b = some u → b = a ∧ u = .frz ob (.lst (ns.map V.int)) ∧ K.lookup a = none) (hS : SqL K H a (ns.map V.int)) (hok : HOk P w H s.heap)
    (KX : K.In s.heap) (g1 : s.heap.Ns mainGlobals mg) (g2 : s.heap.Ns builtinsNs mb) (g3 : ∀ x : Str, x ≠ "__name__" → mb x = bootBuiltins x) (g4 : s.heap.NoLimit) (g5 : s.gens = #[])
    (at_ : s.heap.get? a = some ob) (room : Room k callerA)
    (G : ∀ base : Heap, K.In base → base.Ns mainGlobals mg → FnG P w K mg base CX0 k fa fd [x] sp) (bd : ∀ (s : Shared) (u : Value), BindsTo s fd ⟨[u], []⟩ [(x, u)])
    (pr : sp [.ref a] H (fun v _ => v = .bl true) fun _ _ _ => False) :
    codeAny (model P w) callerA (.call (.ref fa) ⟨[.ref a], []⟩) (fun r s' => r = .ok (.ret (.bool true)) ∧ OldK s.heap s'.heap ∧ s'.os = s.os ∧ AllBare s'.gens) s := by
  have off : ∀ {b : Addr} {o : Obj}, s.heap.get? b = some o → o ≠ ob → H b = none := by
    intro b o e ne
    cases z : H b with
    | none => rfl
    | some u =>
      obtain ⟨rfl, _, _⟩ := H1 b u z
      exact absurd (Option.some.inj (e.symm.trans at_)) ne
  have offD : ∀ {b : Addr} {o : Obj} {es : Array DictEntry} {ep : Nat}, s.heap.get? b = some o → o.data = .dict es ep → H b = none := fun {b o es ep} e d => off e (by
    rintro rfl
    rw [eo] at d
    cases d)
  have hid : ∀ {b : Addr} {m : Str → Option Value}, s.heap.Ns b m → (hidT s.heap H).Ns b m := by
    rintro b m ⟨o, es, ep, e, d, r⟩
    exact ⟨o, es, ep, hidT_get e (offD e d), d, r⟩
  have KB : K.In (hidT s.heap H) := by
    intro b o e
    refine hidT_get (KX b o e) ?_
    cases z : H b with
    | none => rfl
    | some u =>
      obtain ⟨rfl, _, no⟩ := H1 b u z
      rw [no] at e
      cases e
  obtain ⟨mc, l1, l2⟩ := g4
  have z0 : Env0 P w K mg (hidT s.heap H) callerA [] s H :=
    { frames := rfl, mod := ⟨KB, hid g1, ⟨mb, hid g2, g3⟩, ⟨mc, hid l1, l2⟩⟩, bs := fun b o e => of_hidT e, bsz := Nat.le_of_eq (hidT_size _ _), funs := trivial
      frf := fun b hb => absurd (show b ∈ ([] : List Addr) from hb) List.not_mem_nil, hok := hok, bare := .of_eq g5 }
  refine codeAny_mono ((G _ KB (hid g1)).goes callerA rfl room [] s H ⟨[.ref a], []⟩ [.ref a] [.ref a] _ _ z0 (bd s (.ref a)) (.cons rfl .nil) pr) ?_
  intro res s2 got
  match res, got with
  | .ok (.ret u), got =>
    obtain ⟨v, H', os, bare, un, hok', rv, ev⟩ := got
    obtain rfl : v = V.bl true := ev
    obtain rfl : u = Value.bool true := rv
    refine ⟨rfl, OldK.of_keep ?_, os, bare⟩
    intro b o e
    cases z : H b with
    | none => exact un.keep b o e z (fun q => absurd (show b ∈ ([] : List Addr) from q) List.not_mem_nil) (by simp)
    | some u =>
      obtain ⟨rfl, rfl, _⟩ := H1 b u z
      have z2 := un.frzs b ob _ z
      obtain ⟨q1, _⟩ := hok b _ z
      obtain ⟨q2, _⟩ := hok' b _ z2
      exact (Option.some.inj (e.symm.trans q1)) ▸ q2
theorem enter (hobj : s.heap.get? a = some { cls := .type "list", data := .seq vs.toArray }) (hi : IntsAre vs ns) (hl : ns.length ≤ sizeLine)
    (KX : K.In s.heap) (g1 : s.heap.Ns mainGlobals mg) (g2 : s.heap.Ns builtinsNs mb) (g3 : ∀ x : Str, x ≠ "__name__" → mb x = bootBuiltins x) (g4 : s.heap.NoLimit) (g5 : s.gens = #[]) (room : Room k callerA)
    (G : ∀ base : Heap, K.In base → base.Ns mainGlobals mg → FnG P w K mg base CX0 k fa fd [x] sp) (bd : ∀ (s : Shared) (u : Value), BindsTo s fd ⟨[u], []⟩ [(x, u)])
    (pr : ∀ H : Hp, SqL K H a (ns.map V.int) → sp [.ref a] H (fun v _ => v = .bl true) fun _ _ _ => False) :
    codeAny (model P w) callerA (.call (.ref fa) ⟨[.ref a], []⟩) (fun r s' => r = .ok (.ret (.bool true)) ∧ OldK s.heap s'.heap ∧ s'.os = s.os ∧ AllBare s'.gens) s := by
  have rel := vals_ints hi
  cases hk : K.lookup a with
  | some o =>
    have same := Option.some.inj ((KX a o hk).symm.trans hobj)
    have hS : SqL K (fun _ => none) a (ns.map V.int) := .inr ⟨o, vs.toArray, _, hk, by rw [same], by rw [same], by rw [same], by rw [List.size_toArray, hi.length]; exact hl, rel⟩
    exact enters (fun _ => none) _ rfl (fun b u z => nomatch (show (none : Option HO) = some u from z)) hS (fun b u z => nomatch (show (none : Option HO) = some u from z)) KX g1 g2 g3 g4 g5 hobj room G bd (pr _ hS)
  | none =>
    let ob : Obj := { cls := .type "list", data := .seq vs.toArray }
    let H : Hp := fun b => if b = a then some (.frz ob (.lst (ns.map V.int))) else none
    have H1 : ∀ b u, H b = some u → b = a ∧ u = .frz ob (.lst (ns.map V.int)) ∧ K.lookup a = none := by
      intro b u z
      by_cases q : b = a
      · exact ⟨q, (Option.some.inj ((if_pos q).symm.trans z)).symm, hk⟩
      · exact nomatch ((if_neg q).symm.trans z : (none : Option HO) = some u)
    have hS : SqL K H a (ns.map V.int) := .inl (.inr ⟨ob, if_pos rfl⟩)
    refine enters H ob rfl H1 hS ?_ KX g1 g2 g3 g4 g5 hobj room G bd (pr _ hS)
    intro b u z
    obtain ⟨rfl, rfl, _⟩ := H1 b u z
    exact ⟨hobj, by rw [List.length_map]; exact hl, vs, _, rel, hobj⟩
end
/-- the goal that k_head leaves, for a law's def that wants to know what is under way; the script's ints with their bits -/
theorem walk_g {l : PySem.W.OpenLaw} {n k : Nat} {q : Program} {loose : List Str} {XP : (Str → Option Value) → Heap → Prop} {YP : World → Heap → Prop} {d : DefRec} {K : Params → PySem.W.Frag} {sp : PySem.W.Frag → Sp} {x : Str}
    (hn : l.most = some n) (small : n ≤ sizeLine) (plain : d.params.defaults = []) (room : Room k callerA) (hK : ∀ (w : World) (h : Heap), YP w h → (K w.params).In h)
    (G : ∀ (w : World) (mg : Str → Option Value) (fa : Addr) (h : Heap), (K w.params).In h → h.Ns mainGlobals mg → mg d.name = some (.ref fa) →
      ∃ fd : FuncData, (∀ (s : Shared) (u : Value), BindsTo s fd ⟨[u], []⟩ [(x, u)]) ∧ ∀ base : Heap, (K w.params).In base → base.Ns mainGlobals mg → FnG l.prog w (K w.params) mg base CX0 k fa fd [x] (sp (K w.params)))
    (pr : ∀ (K : PySem.W.Frag) (H : Hp) (a : Addr) (ns : List Int), ns.length ≤ n → (∀ i ∈ ns, Builtin.Int.intBits i ≤ 1048576) → SqL K H a (ns.map V.int) → sp K [.ref a] H (fun v _ => v = .bl true) fun _ _ _ => False) :
    PySem.W.WalkO q loose XP YP l.row.toRowW d [] (fun f vs => PySem.call f vs) := by
  refine Att.attach_callB hn plain ?_
  intro w s0 s mg mb fa o pm cd doc a vs ns A Y _ _ _ hmg hobj hints hlen hbits hg
  have KX := hK w _ Y
  obtain ⟨fd, bd, GG⟩ := G w mg fa _ KX A.T.g hmg
  exact enter hobj hints (Nat.le_trans hlen small) KX A.T.g A.T.b A.T.builtins A.T.nolimit hg room GG bd fun H hS => pr _ H a ns hlen hbits hS
end Cb
set_option Elab.async false
set_option linter.all false
set_option maxRecDepth 100000
set_option maxHeartbeats 4000000
namespace Cb
open PySem PySem.Spec PyProof.Rows L2
/-- a def stands under its name -/
def Has (K : PySem.W.Frag) (mg : Str → Option Value) (x : Str) (st : Stmt) (ps : List Str) : Prop :=
  ∃ (f : Addr) (fd : FuncData), Fun K x x st f fd ∧ mg x = some (.ref f) ∧ Binds K fd ps []
/-- it keeps a promise -/
def Says (P : Program) (w : World) (K : PySem.W.Frag) (mg : Str → Option Value) (base : Heap) (k : Nat) (x : Str) (ps : List Str) (sp : Sp) : Prop :=
  ∃ (f : Addr) (fd : FuncData), FnOk P w K mg base CX0 k f fd ps sp ∧ mg x = some (.ref f) ∧ PySem.W.keepIn K (.ref f) = true ∧ Binds K fd ps []
def SaysG (P : Program) (w : World) (K : PySem.W.Frag) (mg : Str → Option Value) (base : Heap) (k : Nat) (x : Str) (ps : List Str) (sp : Sp) : Prop :=
  ∃ (f : Addr) (fd : FuncData), FnG P w K mg base CX0 k f fd ps sp ∧ mg x = some (.ref f) ∧ PySem.W.keepIn K (.ref f) = true ∧ Binds K fd ps []
/-- also by keywords alone, in an order of their own: g puts them in the parameters' order -/
def kOnly (g : {α : Type} → List α → List α) : {α : Type} → List α → List α → List α
  | _, [], ws => g ws
  | _, _ :: _, _ => []
def SaysK (P : Program) (w : World) (K : PySem.W.Frag) (mg : Str → Option Value) (base : Heap) (k : Nat) (x : Str) (ps ks : List Str) (g : {α : Type} → List α → List α) (sp : Sp) : Prop :=
  ∃ (f : Addr) (fd : FuncData), FnOk P w K mg base CX0 k f fd ps sp ∧ mg x = some (.ref f) ∧ PySem.W.keepIn K (.ref f) = true ∧ KBinds K fd ps ks (kOnly g) (kOnly g)
def HasK (K : PySem.W.Frag) (mg : Str → Option Value) (x : Str) (st : Stmt) (ps ks : List Str) (g : {α : Type} → List α → List α) : Prop :=
  ∃ (f : Addr) (fd : FuncData), Fun K x x st f fd ∧ mg x = some (.ref f) ∧ KBinds K fd ps ks (kOnly g) (kOnly g)
/-- a def's body keeps a promise -/
abbrev Body (P : Program) (w : World) (K : PySem.W.Frag) (mg : Str → Option Value) (base : Heap) (k : Nat) (x : Str) (st : Stmt) (N : List Str) (sp : Sp) : Prop :=
  ∀ (f : Addr) (cdv : Value) (A : Around) (outer : List Env) (s : Shared) (H : Hp) (vs : List V) (Q : VK) (E : XK), Room k (A.deeper (envOfC x (defScope st) s.heap.objs.size f cdv)) → sp vs H Q E →
      ∃ t, PSs (cxOf CX0 P w K mg base N x (defScope st) f cdv A outer s H E).nox (defBody st) t ∧ t { nx := fun _ H' => Q .non H', rt := Q } (start N vs) H
section
variable {P : Program} {w : World} {K : PySem.W.Frag} {mg : Str → Option Value} {base : Heap} {k : Nat} {x : Str} {st : Stmt} {N ps : List Str} {sp : Sp}
theorem has {f : Addr} {oc : Value} {od an : Option Addr} {osl : Array (Option Value)} {kV doc pm cdv ct : Value} {h : Heap} (X : K.In h) (G : h.Ns mainGlobals mg) (a : PySem.W.nsIn K mainGlobals x = some (some (.ref f)))
    (l : K.lookup f = some ⟨oc, od, .func (PySem.W.fnOf x x (defArgs st) (defBody st) (defScope st) .none kV doc pm an cdv ct), osl⟩) (c : PySem.W.codeIn K cdv x = true) (kp : PySem.W.keepIn K (.ref f) = true)
    (b : ∀ (kV doc pm : Value) (an : Option Addr) (cdv ct : Value) (us : List Value), us.length = ps.length → bindArgs (PySem.W.fnOf x x (defArgs st) (defBody st) (defScope st) .none kV doc pm an cdv ct) ⟨us, []⟩ = pure (ps.zip us)) :
    Has K mg x st ps := ⟨f, _, fun_mk l c kp, PySem.W.mg_of X G a, (fun_mk l c kp).binds b⟩
theorem says (h : Has K mg x st ps) (S : FnScope N ps (defScope st)) (len : ∀ vs H Q E, sp vs H Q E → vs.length = ps.length)
    (body : ∀ (f : Addr) (cdv : Value) (A : Around) (outer : List Env) (s : Shared) (H : Hp) (vs : List V) (Q : VK) (E : XK), Room k (A.deeper (envOfC x (defScope st) s.heap.objs.size f cdv)) → sp vs H Q E →
      ∃ t, PSs (cxOf CX0 P w K mg base N x (defScope st) f cdv A outer s H E).nox (defBody st) t ∧ t { nx := fun _ H' => Q .non H', rt := Q } (start N vs) H) : Says P w K mg base (k + 1) x ps sp := by
  obtain ⟨f, fd, F, hm, b⟩ := h
  exact ⟨f, fd, F.ok S len fun cdv A outer s H vs Q E => body f cdv A outer s H vs Q E, hm, F.kp, b⟩
theorem saysK {ks : List Str} {g : {α : Type} → List α → List α} (h : HasK K mg x st ps ks g) (S : FnScope N ps (defScope st)) (len : ∀ vs H Q E, sp vs H Q E → vs.length = ps.length) (body : Body P w K mg base k x st N sp) : SaysK P w K mg base (k + 1) x ps ks g sp := by
  obtain ⟨f, fd, F, hm, b⟩ := h
  exact ⟨f, fd, F.ok S len fun cdv A outer s H vs Q E => body f cdv A outer s H vs Q E, hm, F.kp, b⟩
/-- one, and two turned about -/
theorem kb1 {fd : FuncData} {p : Str} (h : ∀ v : Value, bindArgs fd ⟨[], [(p, v)]⟩ = pure [(p, v)]) : KBinds K fd [p] [p] (kOnly fun l => l) (kOnly fun l => l) where
  to := fun s us ws _ hl => match us, ws, hl with
    | [], [v], _ => .of_eq (h v)
  rel := fun {vs us zs ws} r1 r2 => by
    cases r1 with
    | nil => exact r2
    | cons _ _ => exact .nil
theorem vals_rev {vs : List V} {us : List Value} (r : Vals vs us) : Vals vs.reverse us.reverse := by
  induction r with
  | nil => exact .nil
  | cons h _ ih =>
    rw [List.reverse_cons, List.reverse_cons]
    exact ih.append (.cons h .nil)
theorem kb2 {fd : FuncData} {p q : Str} (h : ∀ u v : Value, bindArgs fd ⟨[], [(q, u), (p, v)]⟩ = pure [(p, v), (q, u)]) : KBinds K fd [p, q] [q, p] (kOnly List.reverse) (kOnly List.reverse) where
  to := fun s us ws _ hl => match us, ws, hl with
    | [], [u, v], _ => .of_eq (h u v)
    | [], [], hl => nomatch hl
    | [], [_], hl => nomatch hl
    | [], _ :: _ :: _ :: _, hl => by
      have z : (List.reverse (_ :: _ :: _ :: _) : List Value).length = 2 := hl
      rw [List.length_reverse] at z
      simp at z
  rel := fun {vs us zs ws} r1 r2 => by
    cases r1 with
    | nil => exact vals_rev r2
    | cons _ _ => exact .nil
theorem hasK {ks : List Str} {gk : {α : Type} → List α → List α} {f : Addr} {oc : Value} {od an : Option Addr} {osl : Array (Option Value)} {kV doc pm cdv ct : Value} {h : Heap} (X : K.In h) (G : h.Ns mainGlobals mg) (a : PySem.W.nsIn K mainGlobals x = some (some (.ref f)))
    (l : K.lookup f = some ⟨oc, od, .func (PySem.W.fnOf x x (defArgs st) (defBody st) (defScope st) .none kV doc pm an cdv ct), osl⟩) (c : PySem.W.codeIn K cdv x = true) (kp : PySem.W.keepIn K (.ref f) = true)
    (b : KBinds K (PySem.W.fnOf x x (defArgs st) (defBody st) (defScope st) .none kV doc pm an cdv ct) ps ks (kOnly gk) (kOnly gk)) :
    HasK K mg x st ps ks gk := ⟨f, _, fun_mk l c kp, PySem.W.mg_of X G a, b⟩
theorem saysG (h : Has K mg x st ps) (S : FnScope N ps (defScope st)) (len : ∀ vs H Q E, sp vs H Q E → vs.length = ps.length)
    (body : ∀ (f : Addr) (cdv : Value) (A : Around) (outer : List Env) (s : Shared) (H : Hp) (vs : List V) (Q : VK) (E : XK), A.guards = some [] → Room k (A.deeper (envOfC x (defScope st) s.heap.objs.size f cdv)) → sp vs H Q E →
      ∃ t, PSs (cxOf CX0 P w K mg base N x (defScope st) f cdv A outer s H E).nox (defBody st) t ∧ t { nx := fun _ H' => Q .non H', rt := Q } (start N vs) H) : SaysG P w K mg base (k + 1) x ps sp := by
  obtain ⟨f, fd, F, hm, b⟩ := h
  exact ⟨f, fd, fun_g F S len fun cdv A outer s H vs Q E ga hr h => (body f cdv A outer s H vs Q E ga hr h).imp fun _ z => ⟨z.1.nox, z.2⟩, hm, F.kp, b⟩
theorem fnG {f : Addr} {fd : FuncData} (F : Fun K x x st f fd) (S : FnScope N ps (defScope st)) (len : ∀ vs H Q E, sp vs H Q E → vs.length = ps.length)
    (body : ∀ (f : Addr) (cdv : Value) (A : Around) (outer : List Env) (s : Shared) (H : Hp) (vs : List V) (Q : VK) (E : XK), A.guards = some [] → Room k (A.deeper (envOfC x (defScope st) s.heap.objs.size f cdv)) → sp vs H Q E →
      ∃ t, PSs (cxOf CX0 P w K mg base N x (defScope st) f cdv A outer s H E).nox (defBody st) t ∧ t { nx := fun _ H' => Q .non H', rt := Q } (start N vs) H) : FnG P w K mg base CX0 (k + 1) f fd ps sp :=
  fun_g F S len fun cdv A outer s H vs Q E ga hr h => (body f cdv A outer s H vs Q E ga hr h).imp fun _ z => ⟨z.1.nox, z.2⟩
theorem Says.imp {sp' : Sp} (c : Says P w K mg base k x ps sp) (h : ∀ vs H Q E, sp' vs H Q E → sp vs H Q E) : Says P w K mg base k x ps sp' := by
  obtain ⟨f, fd, F, hm, kp, b⟩ := c
  exact ⟨f, fd, F.imp h, hm, kp, b⟩
end
section
variable {X : Cx} {k j : Nat} {x : Str} {ps ks : List Str} {sp : Sp} {p pos : Pos} {e : Expr} {es : List Expr} {t tk : TA} {kws : List Keyword} {g : {α : Type} → List α → List α}
theorem pe_s (c : Says X.prog X.w X.K X.mg X.base k x ps sp) (hr : Room j X.A) (ha : PA X (e :: es) t) (le : k ≤ j := by decide) (gl : Gl X x := by rfl) (nd : (x == ("__debug__" : Str)) = false := by decide)
    (se : starEach (e :: es) X.env = (false, eval e X.env) :: starEach es X.env := by rfl) (pl : (backTo pos (starEach es X.env)).any (·.1) = false := by rfl) : PE X (.Call (.Name x p) (e :: es) [] pos) (tCall sp [] E0 t) := by
  obtain ⟨f, fd, F, hm, kp, b⟩ := c
  exact pe_call F (hr.mono le) gl hm kp b .nil pass0 ha nd se pl
theorem pe_g (c : SaysG X.prog X.w X.K X.mg X.base k x ps sp) (ga : X.A.guards = some []) (hr : Room j X.A) (ha : PA X (e :: es) t) (le : k ≤ j := by decide) (gl : Gl X x := by rfl) (nd : (x == ("__debug__" : Str)) = false := by decide)
    (se : starEach (e :: es) X.env = (false, eval e X.env) :: starEach es X.env := by rfl) (pl : (backTo pos (starEach es X.env)).any (·.1) = false := by rfl) : PE X (.Call (.Name x p) (e :: es) [] pos) (tCall sp [] E0 t) := by
  obtain ⟨f, fd, F, hm, kp, b⟩ := c
  exact pe_callG F ga (hr.mono le) gl hm kp b .nil pass0 ha nd se pl
theorem pe_k0 (c : SaysK X.prog X.w X.K X.mg X.base k x ps ks g sp) (hr : Room j X.A) (hk : PK X kws tk) (le : k ≤ j := by decide) (gl : Gl X x := by rfl)
    (named : (backToKw pos (keywordEach kws X.env)).all (·.1.isSome) = true := by rfl) (names : (backToKw pos (keywordEach kws X.env)).filterMap (·.1) = ks := by rfl) (nd : (x == ("__debug__" : Str)) = false := by decide)
    (pl : ((backTo pos (starEach [] X.env)).any (·.1) || (backToKw pos (keywordEach kws X.env)).any (·.1.isNone)) = false := by rfl) : PE X (.Call (.Name x p) [] kws pos) (tCallK sp (kOnly g) E0 tNil tk) := by
  obtain ⟨f, fd, F, hm, kp, b⟩ := c
  exact pe_callK0 F (hr.mono le) gl hm kp b pass0 hk named names nd pl
end
/-! ### heaps -/
theorem upd_self {H : Hp} {a : Addr} {o : HO} (h : H a = some o) : upd H a o = H := by
  funext b
  by_cases q : b = a
  · rw [q, upd_same, h]
  · rw [upd_ne q]
theorem same_new {H : Hp} {p : Addr} {o : HO} (h : H p = none) : Same H (upd H p o) := fun b u e => by
  rw [upd_ne (ne_of_none e h)]
  exact e
end Cb
set_option Elab.async false
set_option linter.all false
set_option maxRecDepth 100000
set_option maxHeartbeats 4000000
/-! Data that the calls themselves have made: what stands at an address is a list, a tuple or an empty dict of such. -/
namespace Cb
open PySem PySem.Spec PyProof.Rows L2
mutual
inductive DT (H : Hp) : V → PyData → Prop
  | non : DT H .non .none
  | bl (b : Bool) : DT H (.bl b) (.bool b)
  | int (i : Int) : DT H (.int i) (.int i)
  | str (z : Str) : DT H (.str z) (.str z)
  | lst {a : Addr} {xs : List V} {ds : List PyData} : H a = some (.lst xs) → DTs H xs ds → DT H (.ref a) (.list ds)
  | tup {a : Addr} {xs : List V} {ds : List PyData} : H a = some (.tup xs) → DTs H xs ds → DT H (.ref a) (.tuple ds)
  | dct {a : Addr} : H a = some (.dK []) → DT H (.ref a) (.dict [])
inductive DTs (H : Hp) : List V → List PyData → Prop
  | nil : DTs H [] []
  | cons {v : V} {vs : List V} {d : PyData} {ds : List PyData} : DT H v d → DTs H vs ds → DTs H (v :: vs) (d :: ds)
end
mutual
theorem DT.same {H H' : Hp} (s : Same H H') : ∀ (d : PyData) {v : V}, DT H v d → DT H' v d
  | .none, _, h => by cases h; exact .non
  | .bool _, _, h => by cases h; exact .bl _
  | .int _, _, h => by cases h; exact .int _
  | .str _, _, h => by cases h; exact .str _
  | .list ds, _, h => by
    cases h with
    | lst e r => exact .lst (s _ _ e) (DTs.same s ds r)
  | .tuple ds, _, h => by
    cases h with
    | tup e r => exact .tup (s _ _ e) (DTs.same s ds r)
  | .dict _, _, h => by
    cases h with
    | dct e => exact .dct (s _ _ e)
theorem DTs.same {H H' : Hp} (s : Same H H') : ∀ (ds : List PyData) {vs : List V}, DTs H vs ds → DTs H' vs ds
  | [], _, h => by cases h; exact .nil
  | d :: ds, _, h => by
    cases h with
    | cons a r => exact .cons (DT.same s d a) (DTs.same s ds r)
end
theorem DTs.length {H : Hp} : ∀ {ds : List PyData} {vs : List V}, DTs H vs ds → vs.length = ds.length
  | [], _, h => by cases h; rfl
  | d :: ds, _, h => by
    cases h with
    | cons a r =>
      rw [List.length_cons, List.length_cons, DTs.length r]
theorem DTs.get {H : Hp} : ∀ {ds : List PyData} {vs : List V} {j : Nat} {v : V} {d : PyData}, DTs H vs ds → vs[j]? = some v → ds[j]? = some d → DT H v d
  | [], _, j, v, d, h, e, f => by simp at f
  | d0 :: ds, _, 0, v, d, h, e, f => by
    cases h with
    | cons a r =>
      simp at e f
      rw [← e, ← f]
      exact a
  | d0 :: ds, _, j + 1, v, d, h, e, f => by
    cases h with
    | cons a r =>
      simp at e f
      exact r.get e f
/-! ### types -/
def tyN : PyData → String
  | .none => "NoneType"
  | .bool _ => "bool"
  | .int _ => "int"
  | .str _ => "str"
  | .list _ => "list"
  | .tuple _ => "tuple"
  | .dict _ => "dict"
def isS : PyData → Bool
  | .str _ => true
  | _ => false
def isL : PyData → Bool
  | .list _ => true
  | _ => false
def isTu : PyData → Bool
  | .tuple _ => true
  | _ => false
theorem DT.ty {K : PySem.W.Frag} {H : Hp} {v : V} : ∀ {d : PyData}, DT H v d → TyX K H v (.type (tyN d))
  | .none, h => by cases h; exact .base .non
  | .bool _, h => by cases h; exact .base (.bl _)
  | .int _, h => by cases h; exact .base (.int _)
  | .str _, h => by cases h; exact .base (.str _)
  | .list _, h => by
    cases h with
    | lst e _ => exact .base (.lst e)
  | .tuple _, h => by
    cases h with
    | tup e _ => exact .base (.tup e)
  | .dict _, h => by
    cases h with
    | dct e => exact .base (.dK e)
theorem kit_s : ∀ d : PyData, kitB (tyN d) "str" = some (isS d)
  | .none => by show kitB "NoneType" "str" = some false; decide +kernel
  | .bool _ => by show kitB "bool" "str" = some false; decide +kernel
  | .int _ => by show kitB "int" "str" = some false; decide +kernel
  | .str _ => by show kitB "str" "str" = some true; decide +kernel
  | .list _ => by show kitB "list" "str" = some false; decide +kernel
  | .tuple _ => by show kitB "tuple" "str" = some false; decide +kernel
  | .dict _ => by show kitB "dict" "str" = some false; decide +kernel
theorem kit_l : ∀ d : PyData, kitB (tyN d) "list" = some (isL d)
  | .none => by show kitB "NoneType" "list" = some false; decide +kernel
  | .bool _ => by show kitB "bool" "list" = some false; decide +kernel
  | .int _ => by show kitB "int" "list" = some false; decide +kernel
  | .str _ => by show kitB "str" "list" = some false; decide +kernel
  | .list _ => by show kitB "list" "list" = some true; decide +kernel
  | .tuple _ => by show kitB "tuple" "list" = some false; decide +kernel
  | .dict _ => by show kitB "dict" "list" = some false; decide +kernel
theorem kit_t : ∀ d : PyData, kitB (tyN d) "tuple" = some (isTu d)
  | .none => by show kitB "NoneType" "tuple" = some false; decide +kernel
  | .bool _ => by show kitB "bool" "tuple" = some false; decide +kernel
  | .int _ => by show kitB "int" "tuple" = some false; decide +kernel
  | .str _ => by show kitB "str" "tuple" = some false; decide +kernel
  | .list _ => by show kitB "list" "tuple" = some false; decide +kernel
  | .tuple _ => by show kitB "tuple" "tuple" = some true; decide +kernel
  | .dict _ => by show kitB "dict" "tuple" = some false; decide +kernel
/-- what a call of isinstance asks of data -/
theorem isi_s {K : PySem.W.Frag} {H : Hp} {v : V} {d : PyData} {Q : VK} (h : DT H v d) (q : Q (.bl (isS d)) H) : rIsi K [v, .ty "str"] H Q := ⟨_, _, _, _, _, rfl, .ty _, h.ty, kit_ty (kit_s d), q⟩
theorem isi_l {K : PySem.W.Frag} {H : Hp} {v : V} {d : PyData} {Q : VK} (h : DT H v d) (q : Q (.bl (isL d)) H) : rIsi K [v, .ty "list"] H Q := ⟨_, _, _, _, _, rfl, .ty _, h.ty, kit_ty (kit_l d), q⟩
theorem isi_t {K : PySem.W.Frag} {H : Hp} {v : V} {d : PyData} {Q : VK} (h : DT H v d) (q : Q (.bl (isTu d)) H) : rIsi K [v, .ty "tuple"] H Q := ⟨_, _, _, _, _, rfl, .ty _, h.ty, kit_ty (kit_t d), q⟩
/-! ### for the reckoning by ==: without dicts -/
mutual
def plain : PyData → Bool
  | .dict _ => false
  | .list ds => plains ds
  | .tuple ds => plains ds
  | _ => true
def plains : List PyData → Bool
  | [] => true
  | d :: ds => plain d && plains ds
end
mutual
theorem DT.dp {K : PySem.W.Frag} {H : Hp} : ∀ {d : PyData} {v : V}, plain d = true → DT H v d → Dp K H v d
  | .none, _, _, h => by cases h; exact .non
  | .bool _, _, _, h => by cases h; exact .bl _
  | .int _, _, _, h => by cases h; exact .int _
  | .str _, _, _, h => by cases h; exact .str _
  | .list ds, _, p, h => by
    cases h with
    | lst e r => exact .lst (SqL.of e) (DTs.dp (ds := ds) (by simpa [plain] using p) r)
  | .tuple ds, _, p, h => by
    cases h with
    | tup e r => exact .tup (SqT.of e) (DTs.dp (ds := ds) (by simpa [plain] using p) r)
  | .dict _, _, p, _ => by simp [plain] at p
theorem DTs.dp {K : PySem.W.Frag} {H : Hp} : ∀ {ds : List PyData} {vs : List V}, plains ds = true → DTs H vs ds → DpAll K H vs ds
  | [], _, _, h => by cases h; exact .nil
  | d :: ds, _, p, h => by
    cases h with
    | cons a r =>
      have p2 : plain d = true ∧ plains ds = true := by simpa [plains] using p
      exact .cons (DT.dp (d := d) p2.1 a) (DTs.dp (ds := ds) p2.2 r)
end
/-! ### lists made one by one, over any walk -/
theorem lc_mapW {J : It} {n : Nat} {G : Hp → Prop} {Y : Nat → Hp → V → Hp → Prop} {i : Nat} {te : TE} {σ : L2.St} {H1 : Hp} {D : Addr} {Qd : Hp → Prop} {ys : List V} (w : Walk J n G Y) (g0 : ∀ H, Same H1 H → G H) (y0 : ∀ j H x H', Y j H x H' → H' = H) (hD : H1 D = none) (len : ys.length = n) (small : n < 1000)
    (hs : ∀ (j : Nat) (x y : V) (H' : Hp) (Q : VK), Same H1 H' → Y j H' x H' → ys[j]? = some y → (∀ H'', Same H' H'' → Q y H'') → te ((wipe σ [i]).set i (some x)) H' Q)
    (hd : ∀ H', Same H1 H' → H' D = some (.lst ys) → Qd H') :
    ∃ W : Nat → Nat → Hp → Prop, (∃ m, W 0 m (upd H1 D (.lst []))) ∧ ∀ k m H, W k m H →
      (J.stop k H ∧ Qd H) ∨ (J.go k H ∧ ∃ Nx : Hp → Prop, (∀ H', Nx H' → ∃ m', m' < m ∧ W (k + 1) m' H') ∧ ∀ x H', J.yld k H x H' → gName i x (wipe σ [i]) H' fun σ2 H2 => wipe σ2 [i] = wipe σ [i] ∧ tYes σ2 H2 fun b H3 =>
        if b = true then te σ2 H3 fun y H4 => ∃ acc, H4 D = some (.lst acc) ∧ acc.length < sizeLine ∧ Nx (upd H4 D (.lst (acc ++ [y]))) else Nx H3) := by
  refine lc_it w (fun j H' => Same H1 H' ∧ H' D = some (.lst (ys.take j))) ⟨same_new hD, upd_same⟩ (fun j H' _ z => g0 H' z.1) ?_ ?_
  · rintro j x H H' hj ⟨s1, hd1⟩ y
    obtain rfl := y0 _ _ _ _ y
    have hy : ys[j]? = some ys[j] := List.getElem?_eq_getElem (by omega)
    refine ⟨?_, ?_⟩
    · show ((wipe σ [i]).set i (some x)).set i none = wipe σ [i]
      show ((σ.set i none).set i (some x)).set i none = σ.set i none
      rw [List.set_set, List.set_set]
    · show te ((wipe σ [i]).set i (some x)) H' _
      refine hs j x _ H' _ s1 y hy ?_
      intro H'' s2
      have e2 := s2 _ _ hd1
      refine ⟨_, e2, ?_, ?_, ?_⟩
      · rw [List.length_take]
        exact Nat.lt_of_le_of_lt (Nat.min_le_right _ _) (by rw [len]; exact small1000 (by omega))
      · intro b o e
        rw [upd_ne (ne_of_none e hD)]
        exact s2 _ _ (s1 _ _ e)
      · rw [upd_same, List.take_add_one, hy]
        rfl
  · rintro H' ⟨s1, hd1⟩
    rw [List.take_of_length_le (by omega)] at hd1
    exact hd H' s1 hd1
end Cb
set_option Elab.async false
set_option linter.all false
set_option maxRecDepth 100000
set_option maxHeartbeats 4000000
namespace Cb
open PySem PySem.Spec PyProof.Rows L2
/-! ### data that can be laid out and compared -/
mutual
def good : PyData → Bool
  | .none => true
  | .bool _ => true
  | .int _ => true
  | .str z => PyData.strOk z && decide (z.length ≤ 1000)
  | .list ds => decide (ds.length < 1000) && goods ds
  | .tuple ds => decide (ds.length < 1000) && goods ds
  | .dict _ => false
def goods : List PyData → Bool
  | [] => true
  | d :: ds => good d && goods ds
end
theorem goods_mem : ∀ {ds : List PyData} {d : PyData}, goods ds = true → d ∈ ds → good d = true
  | [], _, _, h => by cases h
  | e :: ds, d, g, h => by
    have g2 : good e = true ∧ goods ds = true := by simpa [goods] using g
    rcases List.mem_cons.mp h with rfl | h
    · exact g2.1
    · exact goods_mem g2.2 h
mutual
theorem good_can : ∀ d : PyData, good d = true → d.canLay0 = true
  | .none, _ => by simp [PyData.canLay0]
  | .bool _, _ => by simp [PyData.canLay0]
  | .int _, _ => by simp [PyData.canLay0]
  | .str z, h => by
    have h2 : PyData.strOk z = true ∧ z.length ≤ 1000 := by simpa [good] using h
    simpa [PyData.canLay0] using h2.1
  | .list ds, h => by
    have h2 : ds.length < 1000 ∧ goods ds = true := by simpa [good] using h
    simpa [PyData.canLay0] using goods_can ds h2.2
  | .tuple ds, h => by
    have h2 : ds.length < 1000 ∧ goods ds = true := by simpa [good] using h
    simpa [PyData.canLay0] using goods_can ds h2.2
  | .dict _, h => by simp [good] at h
theorem goods_can : ∀ ds : List PyData, goods ds = true → PyData.canLayAll0 ds = true
  | [], _ => by simp [PyData.canLayAll0]
  | d :: ds, h => by
    have g2 : good d = true ∧ goods ds = true := by simpa [goods] using h
    simp [PyData.canLayAll0, good_can d g2.1, goods_can ds g2.2]
end
mutual
theorem good_plain : ∀ d : PyData, good d = true → plain d = true
  | .none, _ => by simp [plain]
  | .bool _, _ => by simp [plain]
  | .int _, _ => by simp [plain]
  | .str z, h => by simp [plain]
  | .list ds, h => by
    have h2 : ds.length < 1000 ∧ goods ds = true := by simpa [good] using h
    simpa [plain] using goods_plain ds h2.2
  | .tuple ds, h => by
    have h2 : ds.length < 1000 ∧ goods ds = true := by simpa [good] using h
    simpa [plain] using goods_plain ds h2.2
  | .dict _, h => by simp [good] at h
theorem goods_plain : ∀ ds : List PyData, goods ds = true → plains ds = true
  | [], _ => by simp [plains]
  | d :: ds, h => by
    have g2 : good d = true ∧ goods ds = true := by simpa [goods] using h
    simp [plains, good_plain d g2.1, goods_plain ds g2.2]
end
/-- good, and not too deep -/
structure OKd (d : PyData) : Prop where
  good : good d = true
  dep : d.depth ≤ 60
theorem OKd.shaped {d : PyData} (h : OKd d) : SeqAt.shaped d = true := by
  unfold SeqAt.shaped
  rw [good_can d h.good, Bool.true_and]
  exact decide_eq_true (Nat.le_trans h.dep (by decide))
theorem OKd.mem_l {d : PyData} {ds : List PyData} (h : OKd (.list ds)) (m : d ∈ ds) : OKd d := by
  have g := h.good
  have g2 : ds.length < 1000 ∧ goods ds = true := by simpa [Cb.good] using g
  refine ⟨goods_mem g2.2 m, ?_⟩
  have := PyData.depth_le_depthAll ds d m
  have h2 := h.dep
  simp only [PyData.depth] at h2
  omega
theorem OKd.mem_t {d : PyData} {ds : List PyData} (h : OKd (.tuple ds)) (m : d ∈ ds) : OKd d := by
  have g := h.good
  have g2 : ds.length < 1000 ∧ goods ds = true := by simpa [Cb.good] using g
  refine ⟨goods_mem g2.2 m, ?_⟩
  have := PyData.depth_le_depthAll ds d m
  have h2 := h.dep
  simp only [PyData.depth] at h2
  omega
theorem OKd.len_l {ds : List PyData} (h : OKd (.list ds)) : ds.length < 1000 := by
  have g := h.good
  have g2 : ds.length < 1000 ∧ goods ds = true := by simpa [Cb.good] using g
  exact g2.1
theorem OKd.len_t {ds : List PyData} (h : OKd (.tuple ds)) : ds.length < 1000 := by
  have g := h.good
  have g2 : ds.length < 1000 ∧ goods ds = true := by simpa [Cb.good] using g
  exact g2.1
theorem OKd.len_s {z : Str} (h : OKd (.str z)) : z.length ≤ 1000 := by
  have g := h.good
  have g2 : PyData.strOk z = true ∧ z.length ≤ 1000 := by simpa [Cb.good] using g
  exact g2.2
theorem okd_str {z : Str} (h : PyData.strOk z = true) (l : z.length ≤ 1000) : OKd (.str z) := by
  refine ⟨?_, ?_⟩
  · simp [Cb.good, h, l]
  · simp [PyData.depth]
/-! ### == of an item and a text -/
theorem eqv_str (z y : Str) : PyData.eqv (.str z) (.str y) = decide (z = y) := by
  simp only [PyData.eqv]
  by_cases h : z = y <;> simp [h]
def isStr (y : Str) : PyData → Bool
  | .str z => decide (z = y)
  | _ => false
theorem eqv_isStr (y : Str) : ∀ d : PyData, PyData.eqv d (.str y) = isStr y d
  | .none => by simp [PyData.eqv, isStr]
  | .bool _ => by simp [PyData.eqv, isStr]
  | .int _ => by simp [PyData.eqv, isStr]
  | .str z => eqv_str z y
  | .list _ => by simp [PyData.eqv, isStr]
  | .tuple _ => by simp [PyData.eqv, isStr]
  | .dict _ => by simp [PyData.eqv, isStr]
/-! ### tests of what is known -/
theorem ifNot {p : Prop} [Decidable p] {A B : Prop} (hA : ¬ p → A) (hB : p → B) : if (!decide p) = true then A else B := by
  by_cases h : p
  · rw [decide_eq_true h]
    exact iteF (hB h)
  · rw [decide_eq_false h]
    exact iteT (hA h)
theorem ifB {b : Bool} {A B : Prop} (hA : b = true → A) (hB : b = false → B) : if b = true then A else B := by
  cases b with
  | true => exact iteT (hA rfl)
  | false => exact iteF (hB rfl)
theorem ifN {z y : Str} {A B : Prop} (h : ¬ z = y) (b : B) : if decide (V.str z = V.str y) = true then A else B := by
  rw [decide_eq_false (fun e => h (V.str.inj e))]
  exact iteF b
theorem ifY {z y : Str} {A B : Prop} (h : z = y) (a : A) : if decide (V.str z = V.str y) = true then A else B := by
  rw [decide_eq_true (congrArg V.str h)]
  exact iteT a
/-! ### signs of texts -/
def lowC (c : Nat) : Bool := decide (97 ≤ c) && decide (c ≤ 122)
def digC (c : Nat) : Bool := decide (48 ≤ c) && decide (c ≤ 57)
theorem lt1 (a c : Nat) : ([c] < [a]) ↔ c < a := by
  rw [List.cons_lt_cons_iff]
  simp
end Cb
set_option Elab.async false
set_option linter.all false
set_option maxRecDepth 100000
set_option maxHeartbeats 4000000
namespace Cb
open PySem PySem.Spec PyProof.Rows L2
/-! ### what is not looked at -/
def hid (S : List Addr) (H : Hp) : Hp := fun b => if b ∈ S then none else H b
def Keep (S : List Addr) (H H' : Hp) : Prop := ∀ b o, b ∉ S → H b = some o → H' b = some o
theorem hid_at {S : List Addr} {H : Hp} {b : Addr} {o : HO} (n : b ∉ S) (e : H b = some o) : hid S H b = some o := by
  unfold hid
  rw [if_neg n]
  exact e
theorem hid_out {S : List Addr} {H : Hp} {b : Addr} {o : HO} (e : hid S H b = some o) : b ∉ S ∧ H b = some o := by
  unfold hid at e
  split at e
  · cases e
  · exact ⟨by assumption, e⟩
theorem Keep.hid {S : List Addr} {H H' : Hp} (k : Keep S H H') : Same (hid S H) (hid S H') := fun b o e => by
  obtain ⟨n, e2⟩ := hid_out e
  exact hid_at n (k b o n e2)
theorem hid_same {S : List Addr} {H : Hp} : Same (hid S H) H := fun b o e => (hid_out e).2
theorem hid_mono {S S' : List Addr} {H : Hp} (h : ∀ b, b ∈ S → b ∈ S') : Same (hid S' H) (hid S H) := fun b o e => by
  obtain ⟨n, e2⟩ := hid_out e
  exact hid_at (fun z => n (h b z)) e2
theorem Same.keep {S : List Addr} {H H' : Hp} (s : Same H H') : Keep S H H' := fun b o _ e => s b o e
theorem Keep.trans {S : List Addr} {H H' H'' : Hp} (a : Keep S H H') (b : Keep S H' H'') : Keep S H H'' := fun c o n e => b c o n (a c o n e)
theorem Keep.refl {S : List Addr} {H : Hp} : Keep S H H := fun _ _ _ e => e
theorem Keep.mono {S S' : List Addr} {H H' : Hp} (k : Keep S H H') (h : ∀ b, b ∈ S → b ∈ S') : Keep S' H H' := fun b o n e => k b o (fun z => n (h b z)) e
/-- writing what is hidden -/
theorem keep_upd {S : List Addr} {H : Hp} {p : Addr} {o : HO} (h : p ∈ S) : Keep S H (upd H p o) := fun b u n e => by
  rw [upd_ne (show b ≠ p from fun z => n (by rw [z]; exact h))]
  exact e
theorem keep_new {S : List Addr} {H : Hp} {p : Addr} {o : HO} (h : H p = none) : Keep S H (upd H p o) := fun b u _ e => same_new h b u e
/-- what was new when S' was told may be hidden no more -/
theorem Keep.less {S S' : List Addr} {H H' : Hp} (k : Keep S' H H') (h : ∀ b, b ∈ S' → b ∉ S → H b = none) : Keep S H H' := fun b o n e => by
  by_cases z : b ∈ S'
  · rw [h b z n] at e
    cases e
  · exact k b o z e
/-! ### data of bounded size -/
def fit : List Nat → PyData → Bool
  | _, .none => true
  | _, .bool _ => true
  | _, .int i => decide (i = 0) || decide (i = 7)
  | _, .str z => PyData.strOk z && decide (z.length ≤ 40)
  | w :: ws, .list ds => decide (ds.length ≤ w) && ds.all (fit ws)
  | w :: ws, .tuple ds => decide (ds.length ≤ w) && ds.all (fit ws)
  | _, _ => false
def bulk : List Nat → Nat
  | [] => 40
  | w :: ws => 40 + w * (bulk ws + 1)
theorem bulk_40 : ∀ ws, 40 ≤ bulk ws
  | [] => Nat.le_refl _
  | w :: ws => by
    unfold bulk
    omega
theorem weightAll_le {n : Nat} : ∀ {ds : List PyData}, (∀ d ∈ ds, d.weight ≤ n) → PyData.weightAll ds ≤ ds.length * (n + 1)
  | [], _ => by simp [PyData.weightAll]
  | d :: ds, h => by
    have h1 := h d (List.mem_cons_self ..)
    have h2 := weightAll_le (ds := ds) fun e he => h e (List.mem_cons_of_mem _ he)
    simp only [PyData.weightAll, List.length_cons]
    rw [Nat.add_mul]
    omega
theorem canAll {ds : List PyData} (h : ∀ d ∈ ds, d.canLay0 = true) : PyData.canLayAll0 ds = true := by
  induction ds with
  | nil => simp [PyData.canLayAll0]
  | cons d ds ih => simp [PyData.canLayAll0, h d (List.mem_cons_self ..), ih fun e he => h e (List.mem_cons_of_mem _ he)]
theorem depthAll_le {n : Nat} {ds : List PyData} (h : ∀ d ∈ ds, d.depth ≤ n) : PyData.depthAll ds ≤ n := by
  induction ds with
  | nil => simp [PyData.depthAll]
  | cons d ds ih =>
    have h1 := h d (List.mem_cons_self ..)
    have h2 := ih fun e he => h e (List.mem_cons_of_mem _ he)
    simp only [PyData.depthAll]
    omega
/-- what fits is good, can be laid out, compared and shown -/
structure Fits (ws : List Nat) (d : PyData) : Prop where
  good : good d = true
  dep : d.depth ≤ ws.length
  wgt : d.weight ≤ bulk ws
  short : d.intsShort 13 = true
  shw : d.showable = true
  nod : d.hasDict = false
theorem goods_of : ∀ {ds : List PyData}, (∀ d ∈ ds, good d = true) → goods ds = true
  | [], _ => rfl
  | d :: ds, h => by
    simp only [goods, h d (List.mem_cons_self ..), goods_of (ds := ds) fun e he => h e (List.mem_cons_of_mem _ he), Bool.and_self]
theorem showAll_of : ∀ {ds : List PyData}, (∀ d ∈ ds, d.showable = true) → PyData.showableAll ds = true
  | [], _ => by simp [PyData.showableAll]
  | d :: ds, h => by
    simp only [PyData.showableAll, h d (List.mem_cons_self ..), showAll_of (ds := ds) fun e he => h e (List.mem_cons_of_mem _ he), Bool.and_self]
theorem shortAll_of : ∀ {ds : List PyData}, (∀ d ∈ ds, d.intsShort 13 = true) → PyData.intsShortAll 13 ds = true
  | [], _ => by simp [PyData.intsShortAll]
  | d :: ds, h => by
    simp only [PyData.intsShortAll, h d (List.mem_cons_self ..), shortAll_of (ds := ds) fun e he => h e (List.mem_cons_of_mem _ he), Bool.and_self]
theorem nodAll_of : ∀ {ds : List PyData}, (∀ d ∈ ds, d.hasDict = false) → PyData.hasDictAll ds = false
  | [], _ => by simp [PyData.hasDictAll]
  | d :: ds, h => by
    simp only [PyData.hasDictAll, h d (List.mem_cons_self ..), nodAll_of (ds := ds) fun e he => h e (List.mem_cons_of_mem _ he), Bool.or_self]
theorem log_100 {i : Int} (h : i.natAbs < 100) : i.natAbs.log2 < 1920 := Nat.lt_of_lt_of_le (PySem.Flt.log2_lt_of (by decide) (show i.natAbs < 2 ^ 7 by omega)) (by decide)
theorem fits_of : ∀ (ws : List Nat), (∀ w ∈ ws, w < 1000) → ∀ d : PyData, fit ws d = true → Fits ws d
  | ws, _, .none, _ => ⟨rfl, by simp [PyData.depth], by simp [PyData.weight], by simp [PyData.intsShort], by simp [PyData.showable], by simp [PyData.hasDict]⟩
  | ws, _, .bool _, _ => ⟨rfl, by simp [PyData.depth], by simp [PyData.weight], by simp [PyData.intsShort], by simp [PyData.showable], by simp [PyData.hasDict]⟩
  | ws, _, .int i, h => by
    have h2 : i = 0 ∨ i = 7 := by cases ws <;> simpa [fit] using h
    have h40 := bulk_40 ws
    rcases h2 with rfl | rfl
    · exact ⟨rfl, by simp [PyData.depth], by simp [PyData.weight], by decide +kernel, by decide +kernel, by simp [PyData.hasDict]⟩
    · exact ⟨rfl, by simp [PyData.depth], Nat.le_trans (by decide +kernel) h40, by decide +kernel, by decide +kernel, by simp [PyData.hasDict]⟩
  | ws, _, .str z, h => by
    have h2 : PyData.strOk z = true ∧ z.length ≤ 40 := by cases ws <;> simpa [fit] using h
    have h40 := bulk_40 ws
    refine ⟨?_, by simp [PyData.depth], ?_, by simp [PyData.intsShort], by simp [PyData.showable], by simp [PyData.hasDict]⟩
    · simp only [Cb.good, h2.1, Bool.true_and]
      exact decide_eq_true (Nat.le_trans h2.2 (by decide))
    · simp only [PyData.weight]
      exact Nat.le_trans h2.2 h40
  | [], _, .list _, h => by simp [fit] at h
  | [], _, .tuple _, h => by simp [fit] at h
  | [], _, .dict _, h => by simp [fit] at h
  | _ :: _, _, .dict _, h => by simp [fit] at h
  | w :: ws, hw, .list ds, h => by
    have h2 : ds.length ≤ w ∧ ds.all (fit ws) = true := by simpa only [fit, Bool.and_eq_true, decide_eq_true_eq] using h
    have all : ∀ d ∈ ds, Fits ws d := fun d hd => fits_of ws (fun x hx => hw x (List.mem_cons_of_mem _ hx)) d (List.all_eq_true.mp h2.2 d hd)
    have w1 := hw w (List.mem_cons_self ..)
    refine ⟨?_, ?_, ?_, ?_, ?_, ?_⟩
    · simp only [Cb.good, goods_of fun d hd => (all d hd).good, Bool.and_true]
      exact decide_eq_true (by omega)
    · have := depthAll_le fun d hd => (all d hd).dep
      simp only [PyData.depth, List.length_cons]
      omega
    · have h3 := weightAll_le fun d hd => (all d hd).wgt
      have h4 : ds.length * (bulk ws + 1) ≤ w * (bulk ws + 1) := Nat.mul_le_mul_right _ h2.1
      simp only [PyData.weight, bulk]
      omega
    · simp only [PyData.intsShort]
      exact shortAll_of fun d hd => (all d hd).short
    · simp only [PyData.showable]
      exact showAll_of fun d hd => (all d hd).shw
    · simp only [PyData.hasDict]
      exact nodAll_of fun d hd => (all d hd).nod
  | w :: ws, hw, .tuple ds, h => by
    have h2 : ds.length ≤ w ∧ ds.all (fit ws) = true := by simpa only [fit, Bool.and_eq_true, decide_eq_true_eq] using h
    have all : ∀ d ∈ ds, Fits ws d := fun d hd => fits_of ws (fun x hx => hw x (List.mem_cons_of_mem _ hx)) d (List.all_eq_true.mp h2.2 d hd)
    have w1 := hw w (List.mem_cons_self ..)
    refine ⟨?_, ?_, ?_, ?_, ?_, ?_⟩
    · simp only [Cb.good, goods_of fun d hd => (all d hd).good, Bool.and_true]
      exact decide_eq_true (by omega)
    · have := depthAll_le fun d hd => (all d hd).dep
      simp only [PyData.depth, List.length_cons]
      omega
    · have h3 := weightAll_le fun d hd => (all d hd).wgt
      have h4 : ds.length * (bulk ws + 1) ≤ w * (bulk ws + 1) := Nat.mul_le_mul_right _ h2.1
      simp only [PyData.weight, bulk]
      omega
    · simp only [PyData.intsShort]
      exact shortAll_of fun d hd => (all d hd).short
    · simp only [PyData.showable]
      exact showAll_of fun d hd => (all d hd).shw
    · simp only [PyData.hasDict]
      exact nodAll_of fun d hd => (all d hd).nod
theorem Fits.ok {ws : List Nat} {d : PyData} (f : Fits ws d) (l : ws.length ≤ 60) : OKd d := ⟨f.good, Nat.le_trans f.dep l⟩
theorem Fits.len {ws : List Nat} {d : PyData} (f : Fits ws d) (l : ws.length ≤ 60) (b : bulk ws ≤ 2 ^ 20) : d.shown.length ≤ sizeLine := by
  refine Nat.le_trans (PyProof.Rows.shown_le13 ?_ f.short) (by decide)
  simp only [PyData.layable0, good_can d f.good, Bool.true_and, Bool.and_eq_true, decide_eq_true_eq]
  exact ⟨Nat.le_trans f.dep (by omega), Nat.le_trans f.wgt b⟩
/-- its text, asked by call_repr -/
theorem r_fits {K : PySem.W.Frag} {u : Nat} {H : Hp} {Q : VK} {v : V} {d : PyData} {ws : List Nat} (h : DT H v d) (f : Fits ws d) (l : ws.length ≤ 60) (b : bulk ws ≤ 2 ^ 20) (hu : u + 200 < cLine) (q : Q (.str (PyData.shown d)) H) : rRepr K u [v] H Q := by
  unfold rRepr
  exact ⟨v, d, rfl, h.dp (good_plain d f.good), f.shw, f.nod, by have := f.dep; omega, .inr (f.len l b), q⟩
end Cb
set_option Elab.async false
set_option linter.all false
set_option maxRecDepth 100000
set_option maxHeartbeats 4000000
namespace Cb
open PySem PySem.Spec PyProof.Rows L2
/-! ### a shown text has right code points -/
def okc (z : Str) : Prop := ∀ c ∈ z.cps.toList, c < 0x110000
theorem okc_iff {z : Str} : PyData.strOk z = true ↔ okc z := by
  unfold PyData.strOk okc
  rw [Array.all_eq_true']
  simp
theorem okc_app {a b : Str} (ha : okc a) (hb : okc b) : okc (a ++ b) := by
  intro c hc
  have e : (a ++ b).cps = a.cps ++ b.cps := rfl
  rw [e, Array.toList_append] at hc
  rcases List.mem_append.mp hc with hc | hc
  · exact ha c hc
  · exact hb c hc
theorem char_ok (c : Char) : c.toNat < 0x110000 := by
  have := c.valid
  unfold UInt32.isValidChar Nat.isValidChar at this
  have e : c.toNat = c.val.toNat := rfl
  rw [e]
  rcases this with h | ⟨_, h⟩
  · omega
  · exact h
theorem okc_string (s : String) : okc (Str.ofString s) := by
  intro c hc
  rw [Str.ofString_eq_toList] at hc
  obtain ⟨ch, _, rfl⟩ := List.mem_map.mp (show c ∈ s.toList.map Char.toNat from hc)
  exact char_ok ch
theorem reprChar_ok {q c : Nat} (h : c < 0x110000) : ∀ x ∈ Builtin.Str.reprChar q c, x < 0x110000 := by
  intro x hx
  unfold Builtin.Str.reprChar at hx
  have hex : ∀ k x, x ∈ (List.replicate (k - ((Nat.toDigits 16 c).map Char.toNat).length) 48 ++ (Nat.toDigits 16 c).map Char.toNat) → x < 0x110000 := by
    intro k x hx
    rcases List.mem_append.mp hx with hx | hx
    · rw [(List.mem_replicate.mp hx).2]; decide
    · obtain ⟨ch, _, rfl⟩ := List.mem_map.mp hx
      exact char_ok ch
  simp only at hx
  split at hx
  · simp at hx; omega
  split at hx
  · simp at hx; omega
  split at hx
  · simp at hx; omega
  split at hx
  · simp at hx; omega
  split at hx
  · simp at hx; omega
  split at hx
  · rcases List.mem_append.mp hx with hx | hx
    · simp at hx; omega
    · exact hex _ _ hx
  split at hx
  · rcases List.mem_append.mp hx with hx | hx
    · simp at hx; omega
    · exact hex _ _ hx
  · rcases List.mem_append.mp hx with hx | hx
    · simp at hx; omega
    · exact hex _ _ hx
theorem okc_repr {x : Str} (h : okc x) : okc (reprText x) := by
  have q1 : reprQuote x < 0x110000 := by
    unfold reprQuote
    split <;> decide
  have key : ∀ (l : List Nat) (acc : Array Nat), (∀ c ∈ l, c < 0x110000) → (∀ c ∈ acc.toList, c < 0x110000) → ∀ c ∈ (l.foldl (fun out c => out ++ (Builtin.Str.reprChar (reprQuote x) c).toArray) acc).toList, c < 0x110000 := by
    intro l
    induction l with
    | nil => intro acc _ ha; exact ha
    | cons d l ih =>
      intro acc hl ha
      refine ih _ (fun c hc => hl c (List.mem_cons_of_mem _ hc)) ?_
      intro c hc
      rw [Array.toList_append] at hc
      rcases List.mem_append.mp hc with hc | hc
      · exact ha c hc
      · exact reprChar_ok (hl d (List.mem_cons_self ..)) c hc
  intro c hc
  unfold reprText at hc
  simp only [Array.toList_push, ← Array.foldl_toList] at hc
  rcases List.mem_append.mp hc with hc | hc
  · exact key _ _ h (fun c hc => by simp at hc; omega) c hc
  · simp at hc; omega
theorem okc_textFrom : ∀ (ts : List Str) (k : Nat) (acc : Str), okc acc → (∀ t ∈ ts, okc t) → okc (textFrom k acc ts)
  | [], _, _, h, _ => h
  | t :: ts, k, acc, h, ht => by
    refine okc_textFrom ts (k + 1) _ (okc_app (okc_app h ?_) (ht t (List.mem_cons_self ..))) fun u hu => ht u (List.mem_cons_of_mem _ hu)
    split
    · exact okc_string ", "
    · exact okc_string ""
theorem okc_join {sep : Str} (hs : okc sep) : ∀ (ts : List Str), (∀ t ∈ ts, okc t) → okc (Str.join sep ts)
  | [], _ => okc_string ""
  | [x], h => h x (by simp)
  | x :: y :: r, h => okc_app (okc_app (h x (by simp)) hs) (okc_join hs (y :: r) fun u hu => h u (List.mem_cons_of_mem _ hu))
mutual
theorem okc_shown : ∀ d : PyData, good d = true → okc (PyData.shown d)
  | .none, _ => by simp only [PyData.shown]; exact okc_string _
  | .bool b, _ => by
    simp only [PyData.shown]
    cases b
    · exact okc_string _
    · exact okc_string _
  | .int i, _ => by simp only [PyData.shown]; exact okc_string _
  | .str z, h => by
    have h2 : PyData.strOk z = true ∧ z.length ≤ 1000 := by simpa [good] using h
    simp only [PyData.shown]
    exact okc_repr (okc_iff.mp h2.1)
  | .list ds, h => by
    have h2 : ds.length < 1000 ∧ goods ds = true := by simpa [good] using h
    simp only [PyData.shown]
    exact okc_app (okc_textFrom _ _ _ (okc_string _) (okc_shownAll ds h2.2)) (okc_string _)
  | .tuple ds, h => by
    have h2 : ds.length < 1000 ∧ goods ds = true := by simpa [good] using h
    simp only [PyData.shown]
    unfold tupleText
    refine okc_app (okc_app (okc_string _) (okc_join (okc_string _) _ (okc_shownAll ds h2.2))) ?_
    exact okc_string _
  | .dict _, h => by simp [good] at h
theorem okc_shownAll : ∀ ds : List PyData, goods ds = true → ∀ t ∈ PyData.shownAll ds, okc t
  | [], _, t, ht => by simp [PyData.shownAll] at ht
  | d :: ds, h, t, ht => by
    have g2 : good d = true ∧ goods ds = true := by simpa [goods] using h
    simp only [PyData.shownAll, List.mem_cons] at ht
    rcases ht with rfl | ht
    · exact okc_shown d g2.1
    · exact okc_shownAll ds g2.2 t ht
end
theorem strOk_shown {d : PyData} (h : good d = true) : PyData.strOk (PyData.shown d) = true := okc_iff.mpr (okc_shown d h)
end Cb
set_option Elab.async false
set_option linter.all false
set_option maxRecDepth 100000
set_option maxHeartbeats 4000000
/-! Exceptions of a class of the program whose __init__ says super().__init__(), its base class being the program's own too. -/
namespace ExS
open PySem PySem.W PySem.Calls PyProof.Rows
/-- what does not change: the written part, the module's names, the built-in ones -/
structure Bs (K : Frag) (mg mb : Str → Option Value) (h : Heap) : Prop where
  kin : K.In h
  glob : h.Ns mainGlobals mg
  blt : h.Ns builtinsNs mb
  sup : mg "super" = none
  bsup : mb "super" = some (.type "super")
  nol : h.NoLimit
theorem Bs.keeps {K : Frag} {mg mb : Str → Option Value} {h h' : Heap} (b : Bs K mg mb h) (k : ∀ b o, h.get? b = some o → h'.get? b = some o) : Bs K mg mb h' :=
  ⟨b.kin.keeps k, b.glob.keeps k, b.blt.keeps k, b.sup, b.bsup, b.nol.keeps k⟩
/-- a def of a class D, with its cell of __class__ -/
structure SupFn (K : Frag) (prog : Program) (f D cda cc : Addr) (qual : Str) (params : Arguments) (body : List Stmt) (scope : Scope) (fd : FuncData) : Prop where
  ex : ∃ (name : Str) (dV kV doc pm ct : Value) (od an : Option Addr) (osl : Array (Option Value)), fd = ksFn name qual params body scope dV kV doc pm an (.ref cda) ct cc ∧ K.lookup f = some ⟨.type "function", od, .func fd, osl⟩
  code : codeIn K (.ref cda) qual = true
  at_ : ∃ (c : Value) (cd : Option Addr) (vs : Array Value) (cs : Array (Option Value)) (file : Str) (tf : Tok), K.lookup cda = some ⟨c, cd, .fields vs, cs⟩ ∧ vs[2]? = some (.str file tf) ∧ ((prog.main.file : Str) == file) = true
  cell : ∃ (cl : Value) (cld : Option Addr) (csl : Array (Option Value)), K.lookup cc = some ⟨cl, cld, .cell (some (.ref D)), csl⟩
  cls : ∃ cd : ClassData, clsIn K D = some cd
/-- the program's file knows no name super -/
def NoSup (prog : Program) : Prop := (prog.main.scope.names.lookup ("super" : Str)).isSome = false
section
variable {prog : Program} {w : World} {A : Around} {E : Value → Shared → Prop} {h : Heap} {g : Array GenState} {d : Drawn} {t : Nat} {os : OsState} {K : Frag} {mg mb : Str → Option Value} {f D C x L cda cc : Addr} {qual : Str} {params : Arguments} {body body' : List Stmt} {scope : Scope} {fd : FuncData} {ox : Obj} {odx : Option Obj} {m : Str → Option Value} {ar : Arg} {attr : Str} {p0 p1 : Pos} {whole : Sem Value}
theorem clsAt {cd : ClassData} (X : K.In h) (hD : clsIn K D = some cd) : ∃ oD, h.get? D = some oD ∧ oD.data = .cls cd := by
  unfold clsIn at hD
  split at hD
  · rename_i c d cd' sl ho
    cases hD
    exact ⟨_, X _ _ ho, rfl⟩
  · cases hD
theorem sup_base {Q : Value → Shared → Prop} (B : Bs K mg mb h) (S : SupFn K prog f D cda cc qual params body scope fd) (ns : NoSup prog) (hn : h.Ns L m) (hp : (params.posonlyargs ++ params.args).head? = some ar) (hv : m ar.arg = some (.ref x)) (I : InstAt h x ox C odx)
    (hsub : mroIn K C (.ref D) = some true) (hat : (attr == ("__class__" : Str)) = false) (hks : scope.names.lookup ("super" : Str) = some .globalImplicit) (hkc : scope.names.lookup ("__class__" : Str) = some .free) (hka : scope.names.lookup ar.arg = some .local) (hk : scope.kind = .function)
    (q : ∀ h', h'.get? h.objs.size = some (ks_superObj D x C) → (∀ y o, h.get? y = some o → h'.get? y = some o) → Q (.ref h.objs.size) ⟨h', g, d, t, os⟩) :
    _root_.PySem.wpAt (model prog w) A (.func body' (ksEnv qual scope L f (.ref cda) cc)) (attributeBase (.Call (.Name "super" p0) [] [] p1) attr (ksEnv qual scope L f (.ref cda) cc) whole) Q E ⟨h, g, d, t, os⟩ := by
  obtain ⟨name, dV, kV, doc, pm, ct, od, an, osl, rfl, lf⟩ := S.ex
  obtain ⟨c, cd, vs, cs, file, tf, lc, hvs, hfile⟩ := S.at_
  obtain ⟨cl, cld, csl, lcell⟩ := S.cell
  obtain ⟨cdD, hD⟩ := S.cls
  have X := B.kin
  obtain ⟨oD, hD1, hD2⟩ := clsAt X hD
  refine ks_wpAt_super_base (env := ksEnv qual scope L f (.ref cda) cc) hks hkc hat rfl (X _ _ lf) rfl hp rfl (X _ _ lc) rfl hvs hfile ns ?_
  refine ks_loadName_global hk hks (loadGlobal_builtin (env := ksEnv qual scope L f (.ref cda) cc) B.glob B.sup B.blt B.bsup ⟨rfl, ?_⟩)
  refine wpAny_loadName_free hk hkc rfl ⟨_, X _ _ lcell, rfl⟩ ?_
  refine wpAny_loadName_local hk hka hn hv ?_
  refine ks_wpAny_isType_cls hD1 hD2 ⟨rfl, ?_⟩
  refine ks_wpAny_call_super hD1 hD2 I.at_ I.cls (fun c e => ?_) (looks_mroIn X hsub) (fun h' e k => q h' e k)
  have := I.no
  unfold notCls at this
  rw [e] at this
  exact Bool.noConfusion this
/-! ### super().__init__() that finds ValueError's -/
theorem mw_call {u t0 : Addr} {dv : Option Addr} {c2 : Value} {nm qn : Str} {N : Addr} {bs bm bmB : List Value} {hdct : Bool} {sn : List Str} {sub : List Value} {ab : Bool} {col : Option Bool} {dd : Option Addr} {k0 k1 k2 k3 k5 : Option Value} {Bn newId initId : String} {Q : Value → Shared → Prop}
    (FB : ExcBaseFacts Bn newId initId bmB) (hC : h.get? C = some (excClassObj nm qn C N bs bm hdct sn sub ab col dd k0 k1 k2 k3 k5 newId)) (he : h.get? x = some (excRec (.ref C) t0 dv c2 .none (.bool false))) (hu : h.get? u = some (kxs_mw initId x))
    (q : ∀ h', (∀ b o, b ≠ x → h.get? b = some o → h'.get? b = some o) → h'.get? x = some (excRec (.ref C) h.objs.size dv c2 .none (.bool false)) → Q .none ⟨h', g, d, t, os⟩) :
    wpAny (model prog w) A (call (.ref u) []) Q E ⟨h, g, d, t, os⟩ := by
  refine wpAny_call (codeAny_of_tree ?_)
  show wpAny _ A.in1 (callAny (.ref u) ⟨[], []⟩) _ _ _
  simp only [callAny]
  refine wpAny_bind (wpAny_load hu ?_)
  simp only [kxs_mw, show (Value.type "method-wrapper" == Value.type "method" || Value.type "method-wrapper" == Value.type "builtin_function_or_method" || Value.type "method-wrapper" == Value.type "method-wrapper") = true by decide, if_true]
  refine KFB.if_so (by decide) ?_
  refine wpAny_bind (check_bound_init FB.toExcCallFacts hC he rfl ?_)
  refine wpAny_bind (wpAny_pure (wpAny_pure ?_))
  refine ⟨plainId_quiet FB.init.plain _, codeAny_builtin FB.initEntry ?_⟩
  exact exc_init_tree (cls := .ref C) (t0 := t0) (dv := dv) (c2 := c2) (c3 := .none) (b4 := .bool false) he (by decide) fun h' k e' _ => q h' k e'
end
end ExS
set_option Elab.async false
set_option linter.all false
set_option maxRecDepth 100000
set_option maxHeartbeats 4000000
namespace ExS
open PySem PySem.W PySem.Calls PyProof.Rows
abbrev bSup (p0 p1 p2 p3 p4 : Pos) : Stmt := .Expr (.Call (.Attribute (.Call (.Name "super" p0) [] [] p1) "__init__" p2) [] [] p3) p4
abbrev bVal (p5 p6 p7 p8 : Pos) : Stmt := .Assign [.Attribute (.Name "self" p5) "value" p6] (.Name "value" p7) p8
abbrev exN (C t : Addr) : Obj := excRec (.ref C) t none .none .none (.bool false)
abbrev exD (C t dx : Addr) : Obj := excRec (.ref C) t (some dx) .none .none (.bool false)
abbrev scB : Scope := { kind := .function, names := [("self", .local), ("__class__", .free), ("super", .globalImplicit)], isGenerator := false, isCoroutine := false, more := [] }
abbrev scI : Scope := { kind := .function, names := [("self", .local), ("value", .local), ("__class__", .free), ("super", .globalImplicit)], isGenerator := false, isCoroutine := false, more := [] }
/-- the call stands on one line -/
def Line (p0 p1 p2 p3 : Pos) : Prop := ∀ env : Env, eval (.Call (.Attribute (.Call (.Name "super" p0) [] [] p1) "__init__" p2) [] [] p3) env = (do
  let ov ← attributeBase (.Call (.Name "super" p0) [] [] p1) "__init__" env (eval (.Call (.Name "super" p0) [] [] p1) env)
  standAt p2.atName
  let (f, first) ← holding [ov] (getMethod ov "__init__" (do return (← importBound (.Call (.Name "super" p0) [] [] p1) env).getD true))
  callWith p3 f first (backTo p3 (starEach [] env)) [])
/-- an own class of the program over ValueError, of some depth -/
structure OwnC (K : Frag) (C DB fB : Addr) : Prop where
  cls : ∃ nm q N bs bm hdct sn sub ab col dd k0 k1 k2 k3 k5, K.lookup C = some (excClassObj nm q C N bs bm hdct sn sub ab col dd k0 k1 k2 k3 k5 "ValueError.__new__")
  cd : ∃ cd : ClassData, clsIn K C = some cd
  tp : nsIn K cStatics "thirdparty.any" = some none
  subB : mroIn K C (.ref DB) = some true
  initB : ks_superIn K C DB "__init__" = some (some (.builtin "ValueError.__init__"))
  veB : subIn K (.ref C) (.type "ValueError") = some true
section
variable {prog : Program} {w : World} {A : Around} {E : Value → Shared → Prop} {R : Result → Shared → Prop} {h h₀ : Heap} {g : Array GenState} {d : Drawn} {t : Nat} {os : OsState} {K : Frag} {mg mb : Str → Option Value} {C DB fB cdaB ccB x t0 : Addr} {qB : Str} {params : Arguments} {fdB : FuncData} {p0 p1 p2 p3 p4 : Pos}
theorem instN {h : Heap} (hx : h.get? x = some (exN C t0)) : InstAt h x (exN C t0) C none := ⟨hx, rfl, rfl, trivial⟩
/-- BillError.__init__(self) -/
theorem call_base (B : Bs K mg mb h₀) (k0 : ∀ b o, h₀.get? b = some o → h.get? b = some o) (S : SupFn K prog fB DB cdaB ccB qB params [bSup p0 p1 p2 p3 p4] scB fdB) (ns : NoSup prog) (O : OwnC K C DB fB) (ln : Line p0 p1 p2 p3) (room : A.depth < recursionLimit)
    (hx : h.get? x = some (exN C t0)) (hp : (params.posonlyargs ++ params.args).head?.map (·.arg) = some "self") (hbind : bindArgs fdB ⟨[.ref x], []⟩ = pure [(("self" : Str), Value.ref x)])
    (q : ∀ h' tk t1, (∀ b o, b ≠ x → h.get? b = some o → h'.get? b = some o) → h'.get? x = some (exN C t1) → R (.ok (.ret .none)) ⟨h', g, d, tk, os⟩) :
    codeAny (model prog w) A (.call (.ref fB) ⟨[.ref x], []⟩) R ⟨h, g, d, t, os⟩ := by
  have B1 := B.keeps k0
  have S' := S
  obtain ⟨name, dV, kV, doc, pm, ct, od, an, osl, efd, lf⟩ := S.ex
  obtain ⟨nm, qn, N, bs, bm, hdct, sn, sub, ab, col, dd, kk0, kk1, kk2, kk3, kk5, hC⟩ := O.cls
  obtain ⟨cd, hcd⟩ := O.cd
  obtain ⟨ar, har, ear⟩ : ∃ ar, (params.posonlyargs ++ params.args).head? = some ar ∧ ar.arg = "self" := by
    cases e : (params.posonlyargs ++ params.args).head? with
    | none => rw [e] at hp; cases hp
    | some ar => rw [e] at hp; exact ⟨ar, rfl, Option.some.inj hp⟩
  subst efd
  refine ks_codeAny_call_defAt (fd := ksFn name qB params [bSup p0 p1 p2 p3 p4] scB dV kV doc pm an (.ref cdaB) ct ccB) (body := [bSup p0 p1 p2 p3 p4]) (binds := [(("self" : Str), Value.ref x)]) room (B1.kin _ _ lf) rfl B1.nol (codeRec_of B1.kin S.code) rfl (.of_eq hbind) (show ∀ y ∈ scB.names, y.2 ≠ .cell by decide) (fun y hy => by
    rw [List.mem_singleton.mp hy]
    rfl) (fun h₁ hns hk₁ => ?_)
  refine ks_wpAt_execs_cons (ks_wpAt_Expr_any (ks_wpAt_MethodCall ?_ (ln _)))
  have hx1 := hk₁ _ _ hx
  have B2 := B1.keeps hk₁
  have hself : (fun y => List.lookup y ([(("self" : Str), Value.ref x)] : List (Str × Value)).reverse) ar.arg = some (.ref x) := by
    rw [ear]
    rfl
  refine sup_base B2 S' ns hns har hself (instN hx1) O.subB rfl rfl rfl (by rw [ear]; rfl) rfl (fun h2 hso k2 => ?_)
  have B3 := B2.keeps k2
  have hx2 := k2 _ _ hx1
  have hm := O.initB
  unfold ks_superIn at hm
  rw [hcd] at hm
  refine kxs_getMethod kxs_ValueError hso (looks_opaque B3.kin O.tp) (l₀ := cd.mro) (fun A Q E s k q => wpAny_bind ((looks_clsIn B3.kin hcd) A _ E s k (wpAny_pure q))) rfl B3.kin hm ((instN hx2).type.andThen (looks_subIn B3.kin O.veB)) (ks_ne B3.kin (instN hx2) hcd) rfl ?_
  have k3 : ∀ b o, h2.get? b = some o → (h2.push (kxs_mw "ValueError.__init__" x)).get? b = some o := fun b o e => Heap.get?_push_of_some _ e
  have hu : (h2.push (kxs_mw "ValueError.__init__" x)).get? h2.objs.size = some (kxs_mw "ValueError.__init__" x) := Heap.get?_push_at rfl rfl
  refine kxs_callWith (i := "ValueError.__init__") (x := x) rfl (evalArgs_empty ⟨hu, ?_⟩)
  show wpAny _ _ (call (.ref h2.objs.size) []) _ _ _
  refine mw_call PySem.F.excBase_ValueError ((B3.kin.keeps k3) _ _ hC) (k3 _ _ hx2) hu (fun h4 k4 e4 => ?_)
  show _root_.PySem.wpAt _ _ _ (execs [] _) _ _ _
  refine wpAt_of_wpAny (wpAny_pure ?_)
  exact q h4 _ _ (fun b o hb e => k4 b o hb (k3 b o (k2 b o (hk₁ b o e)))) e4
end
end ExS
set_option Elab.async false
set_option linter.all false
set_option maxRecDepth 100000
set_option maxHeartbeats 4000000
namespace ExS
open PySem PySem.W PySem.Calls PyProof.Rows
/-- such a class with an __init__ of its own: super().__init__(), then self.value = value -/
structure OwnI (K : Frag) (C fI DB fB : Addr) : Prop where
  own : OwnC K C DB fB
  initC : ks_superIn K C C "__init__" = some (some (.ref fB))
  subC : mroIn K C (.ref C) = some true
  fnB : fnIn K fB = true
  mro : ∃ cd : ClassData, clsIn K C = some cd ∧ HandSPX.refsVE cd.mro = true ∧ cd.hasDict = true
  sa : findIn K (.ref C) "__setattr__" = some (some (.builtin "object.__setattr__"))
  noV : findIn K (.ref C) "value" = some none
section
variable {prog : Program} {w : World} {A : Around} {E : Value → Shared → Prop} {R : Result → Shared → Prop} {h h₀ : Heap} {g : Array GenState} {d : Drawn} {t : Nat} {os : OsState} {K : Frag} {mg mb : Str → Option Value} {C fI cdaI ccI DB fB cdaB ccB x t0 : Addr} {qI qB : Str} {parI parB : Arguments} {fdI fdB : FuncData} {p0 p1 p2 p3 p4 p5 p6 p7 p8 r0 r1 r2 r3 r4 : Pos} {v : Value} {args : Args}
theorem nsAt {L : Addr} {m : Str → Option Value} {h h' : Heap} (n : h.Ns L m) (k : ∀ o, h.get? L = some o → h'.get? L = some o) : h'.Ns L m := by
  obtain ⟨o, es, ep, ho, r⟩ := n
  exact ⟨o, es, ep, k o ho, r⟩
/-- __init__(self, value) -/
theorem call_init (B : Bs K mg mb h₀) (k0 : ∀ b o, h₀.get? b = some o → h.get? b = some o) (x0 : h₀.get? x = none) (SI : SupFn K prog fI C cdaI ccI qI parI [bSup p0 p1 p2 p3 p4, bVal p5 p6 p7 p8] scI fdI) (SB : SupFn K prog fB DB cdaB ccB qB parB [bSup r0 r1 r2 r3 r4] scB fdB) (ns : NoSup prog) (O : OwnI K C fI DB fB) (ln : Line p0 p1 p2 p3) (ln2 : Line r0 r1 r2 r3) (room : A.depth + 1 < recursionLimit)
    (hx : h.get? x = some (exN C t0)) (hpI : (parI.posonlyargs ++ parI.args).head?.map (·.arg) = some "self") (hpB : (parB.posonlyargs ++ parB.args).head?.map (·.arg) = some "self") (hbI : ∀ s : Shared, K.In s.heap → BindsTo s fdI args [(("self" : Str), Value.ref x), (("value" : Str), v)]) (hbB : bindArgs fdB ⟨[.ref x], []⟩ = pure [(("self" : Str), Value.ref x)])
    (q : ∀ h' tk t1 dx, (∀ b o, b ≠ x → h.get? b = some o → h'.get? b = some o) → h.objs.size ≤ dx → dx ≠ x → h'.get? x = some (exD C t1 dx) → h'.Ns1 dx (fun y => if y = ("value" : Str) then some v else none) → R (.ok (.ret .none)) ⟨h', g, d, tk, os⟩) :
    codeAny (model prog w) A (.call (.ref fI) args) R ⟨h, g, d, t, os⟩ := by
  have B1 := B.keeps k0
  have S' := SI
  obtain ⟨name, dV, kV, doc, pm, ct, od, an, osl, efd, lf⟩ := SI.ex
  obtain ⟨cd, hcd, hve, hdict⟩ := O.mro
  obtain ⟨ar, har, ear⟩ : ∃ ar, (parI.posonlyargs ++ parI.args).head? = some ar ∧ ar.arg = "self" := by
    cases e : (parI.posonlyargs ++ parI.args).head? with
    | none => rw [e] at hpI; cases hpI
    | some ar => rw [e] at hpI; exact ⟨ar, rfl, Option.some.inj hpI⟩
  subst efd
  refine ks_codeAny_call_defAt (fd := ksFn name qI parI [bSup p0 p1 p2 p3 p4, bVal p5 p6 p7 p8] scI dV kV doc pm an (.ref cdaI) ct ccI) (body := [bSup p0 p1 p2 p3 p4, bVal p5 p6 p7 p8]) (binds := [(("self" : Str), Value.ref x), (("value" : Str), v)]) (by omega) (B1.kin _ _ lf) rfl B1.nol (codeRec_of B1.kin SI.code) rfl (hbI _ B1.kin) (show ∀ y ∈ scI.names, y.2 ≠ .cell by decide) (fun y hy => by
    rcases List.mem_cons.mp hy with rfl | hy
    · rfl
    · rw [List.mem_singleton.mp hy]
      rfl) (fun h₁ hns hk₁ => ?_)
  refine ks_wpAt_execs_cons (ks_wpAt_Expr_any (ks_wpAt_MethodCall ?_ (ln _)))
  have hx1 := hk₁ _ _ hx
  have B2 := B1.keeps hk₁
  have hself : (fun y => List.lookup y ([(("self" : Str), Value.ref x), (("value" : Str), v)] : List (Str × Value)).reverse) ar.arg = some (.ref x) := by
    rw [ear]
    rfl
  refine sup_base B2 S' ns hns har hself (instN hx1) O.subC rfl rfl rfl (by rw [ear]; rfl) rfl (fun h2 hso k2 => ?_)
  have B3 := B2.keeps k2
  have hx2 := k2 _ _ hx1
  have hm := O.initC
  unfold ks_superIn at hm
  rw [hcd] at hm
  obtain ⟨_, _, _, _, _, _, odB, _, oslB, _, hfB⟩ := SB.ex
  refine ks_wpAny_getMethod_super hso (looks_opaque B3.kin O.own.tp) (l₀ := cd.mro) (fun A Q E s k q => wpAny_bind ((looks_clsIn B3.kin hcd) A _ E s k (wpAny_pure q))) rfl B3.kin hm (B3.kin _ _ hfB) rfl (ks_ne B3.kin (instN hx2) hcd) rfl ?_
  have k3 : ∀ b o, h2.get? b = some o → (h2.push (methodObj (.ref fB) (.ref x))).get? b = some o := fun b o e => Heap.get?_push_of_some _ e
  have hu : (h2.push (methodObj (.ref fB) (.ref x))).get? h2.objs.size = some (methodObj (.ref fB) (.ref x)) := Heap.get?_push_at rfl rfl
  have B4 := B3.keeps k3
  refine callWith_M0 (K := K) (g := fB) (self := .ref x) ⟨hu, B4.kin⟩ O.fnB ?_
  show wpAny _ _ (call (.ref h2.objs.size) []) _ _ _
  have k04 : ∀ b o, h₀.get? b = some o → (h2.push (methodObj (.ref fB) (.ref x))).get? b = some o := fun b o e => k3 b o (k2 b o (hk₁ b o (k0 b o e)))
  refine wpAny_call (ks_codeAny_call_bound hu (call_base B k04 SB ns O.own ln2 (by show A.depth + 1 < recursionLimit; exact room) (k3 _ _ hx2) hpB hbB (fun h4 tk t1 k4 e4 => ?_)))
  -- self.value = value
  refine ks_wpAt_execs_cons (ks_wpAt_Assign_Attr ?_)
  have kk : ∀ b o, b ≠ x → h₁.get? b = some o → h4.get? b = some o := fun b o hb e => k4 b o hb (k3 b o (k2 b o e))
  have nLx : h.objs.size ≠ x := Nat.ne_of_gt (Heap.lt_size hx)
  have hns4 : h4.Ns h.objs.size (fun y => List.lookup y ([(("self" : Str), Value.ref x), (("value" : Str), v)] : List (Str × Value)).reverse) := nsAt hns (kk _ · nLx)
  have B5 : Bs K mg mb h4 := B.keeps fun b o e => kk b o (fun z => by rw [z, x0] at e; cases e) (hk₁ b o (k0 b o e))
  have ldv : ∀ {A : Around} {E : Value → Shared → Prop} {Q : Value → Shared → Prop} {gg : Array GenState} {dd : Drawn} {tt : Nat} {oo : OsState} {pp : Pos}, Q v ⟨h4, gg, dd, tt, oo⟩ → wpAny (model prog w) A (eval (.Name "value" pp) (ksEnv qI scI h.objs.size fI (.ref cdaI) ccI)) Q E ⟨h4, gg, dd, tt, oo⟩ := fun hq =>
    wpAny_Name (wpAny_loadName_local (s := ⟨h4, _, _, _, _⟩) (env := ksEnv qI scI h.objs.size fI (.ref cdaI) ccI) (m := fun y => List.lookup y ([(("self" : Str), Value.ref x), (("value" : Str), v)] : List (Str × Value)).reverse) rfl rfl hns4 rfl hq) (by decide)
  have lds : ∀ {A : Around} {E : Value → Shared → Prop} {Q : Value → Shared → Prop} {gg : Array GenState} {dd : Drawn} {tt : Nat} {oo : OsState} {pp : Pos}, Q (.ref x) ⟨h4, gg, dd, tt, oo⟩ → wpAny (model prog w) A (eval (.Name "self" pp) (ksEnv qI scI h.objs.size fI (.ref cdaI) ccI)) Q E ⟨h4, gg, dd, tt, oo⟩ := fun hq =>
    wpAny_Name (wpAny_loadName_local (s := ⟨h4, _, _, _, _⟩) (env := ksEnv qI scI h.objs.size fI (.ref cdaI) ccI) (m := fun y => List.lookup y ([(("self" : Str), Value.ref x), (("value" : Str), v)] : List (Str × Value)).reverse) rfl rfl hns4 rfl hq) (by decide)
  refine wpAt_of_wpAny (ldv ?_)
  refine lds ?_
  refine set_plain B5.kin (instN e4) O.sa ?_
  refine HandSPX.exc_osa B5.kin e4 hcd hve hdict O.noV (fun h' tk' dx k5 dn dne hx5 hn5 => ?_)
  show _root_.PySem.wpAt _ _ _ (execs [] _) _ _ _
  refine wpAt_of_wpAny (wpAny_pure ?_)
  have sz : h.objs.size ≤ h4.objs.size := by
    obtain ⟨o, es, ep, ho, _⟩ := hns4
    exact Nat.le_of_lt (Heap.lt_size ho)
  exact q h' _ t1 dx (fun b o hb e => k5 b o hb (kk b o hb (hk₁ b o e))) (Nat.le_trans sz (show h4.objs.size ≤ dx from dn)) dne hx5 hn5
end
end ExS
set_option Elab.async false
set_option linter.all false
set_option maxRecDepth 100000
set_option maxHeartbeats 4000000
namespace ExS
open PySem PySem.Spec PyProof.Rows L2
/-- all that is to be known of one such class -/
structure BillX (P : Program) (K : PySem.W.Frag) (mg : Str → Option Value) (C : Addr) (x : Str) : Prop where
  ex : ∃ (fI cdaI ccI DB fB cdaB ccB : Addr) (qI qB : Str) (parI parB : Arguments) (fdI fdB : FuncData) (p0 p1 p2 p3 p4 p5 p6 p7 p8 r0 r1 r2 r3 r4 : Pos),
    SupFn K P fI C cdaI ccI qI parI [bSup p0 p1 p2 p3 p4, bVal p5 p6 p7 p8] scI fdI ∧ SupFn K P fB DB cdaB ccB qB parB [bSup r0 r1 r2 r3 r4] scB fdB ∧ OwnI K C fI DB fB ∧ Line p0 p1 p2 p3 ∧ Line r0 r1 r2 r3 ∧
    (parI.posonlyargs ++ parI.args).head?.map (·.arg) = some ("self" : Str) ∧ (parB.posonlyargs ++ parB.args).head?.map (·.arg) = some ("self" : Str) ∧
    (∀ (a : Addr) (v : Value) (s : Shared), K.In s.heap → BindsTo s fdI ⟨[.ref a, v], []⟩ [(("self" : Str), Value.ref a), (("value" : Str), v)]) ∧ (∀ (a : Addr) (s : Shared), K.In s.heap → BindsTo s fdI ⟨[.ref a], []⟩ [(("self" : Str), Value.ref a), (("value" : Str), Value.none)]) ∧ (∀ (a : Addr) (v : Value) (s : Shared), K.In s.heap → BindsTo s fdI ⟨[.ref a], [(("value" : Str), v)]⟩ [(("self" : Str), Value.ref a), (("value" : Str), v)]) ∧ (∀ a : Addr, bindArgs fdB ⟨[.ref a], []⟩ = pure [(("self" : Str), Value.ref a)]) ∧
    PySem.W.findIn K (.ref C) "__init__" = some (some (.ref fI)) ∧ PySem.W.typeIn K (.ref fI) = some (.type "function")
  cls : ∃ nm q N bs bm hdct sn sub ab col dd k0 k1 k2 k3 k5, K.lookup C = some (excClassObj nm q C N bs bm hdct sn sub ab col dd k0 k1 k2 k3 k5 "ValueError.__new__") ∧ PySem.HandSPX.refsVE bm = true
  ns : NoSup P
  sup : mg "super" = none
  gC : mg x = some (.ref C)
  kC : PySem.W.keepIn K (.ref C) = true
  exC : PySem.W.subIn K (.ref C) (.type "BaseException") = some true
  tyC : PySem.W.typeIn K (.ref C) = some (.type "type")
def tBill (C : Addr) (te : TE) : L2.St → Hp → XK → Prop := fun σ H Q => te σ H fun y H1 => ∃ v, [y] = [v] ∧ ∀ d, H1 d = none → Q (.ref C) (some d) (upd H1 d (.xd [("value", v)]))
def qBill (C : Addr) (Q : XK) : List V → Hp → Prop := fun vs H1 => ∃ v, vs = [v] ∧ ∀ d, H1 d = none → Q (.ref C) (some d) (upd H1 d (.xd [("value", v)]))
theorem pmk_bill {X : Cx} {x : Str} {C : Addr} {e : Expr} {te : TE} {k : Nat} {p pos : Pos} (T : BillX X.prog X.K X.mg C x) (hr : Room (k + 1) X.A) (hg : Gl X x) (ha : PE X e te)
    (hdb : (x == ("__debug__" : Str)) = false := by decide) (he : starEach [e] X.env = (false, eval e X.env) :: starEach [] X.env := by rfl) (hpl : (backTo pos (starEach [] X.env)).any (·.1) = false := by rfl) :
    PMk X (.Call (.Name x p) [e] [] pos) (tBill C te) := by
  intro pins s σ H Q I h
  obtain ⟨nm, qn, N, bs, bm, hdct, sn, sub, ab, col, dd, k0, k1, k2, k3, k5, hC, hbm⟩ := T.cls
  obtain ⟨fI, cdaI, ccI, DB, fB, cdaB, ccB, qI, qB, parI, parB, fdI, fdB, p0, p1, p2, p3, p4, p5, p6, p7, p8, r0, r1, r2, r3, r4, SI, SB, OI, ln, ln2, hpI, hpB, bI, bI0, bIk, bB, iC, tI⟩ := T.ex
  refine wpAny_Call_Name_kw (ld_glob I hg T.gC ?_ hdb)
  have h2 : tCons te tNil σ H (qBill C Q) := h
  refine PySem.W.callWith_K (h₀ := X.base) I.ok.mod.kin T.kC (thn ((pa_cons ha pa_nil he).run pos pins s σ H (qBill C Q) I h2) fun us s1 ⟨vs, H1, I1, rr, q0⟩ => ⟨I1.kIn, ?_⟩) he hpl
  show wpAny _ _ (call (.ref C) us) _ _ _
  obtain ⟨v, rfl, q1⟩ := q0
  obtain ⟨u, rfl, ru⟩ := vals1 rr
  obtain ⟨hp, g, dr, tk, os⟩ := s1
  obtain ⟨mb, gb, eb⟩ := I1.mod.blt
  have B : Bs X.K X.mg mb X.base := ⟨I1.mod.kin, I1.mod.glob, gb, T.sup, (eb "super" (by decide)).trans (by decide +kernel), I1.mod.nolimit⟩
  have hn : H1 (hp.objs.size + 1) = none := I1.hok.fresh (Nat.le_succ _)
  have kk : ∀ b o, hp.get? b = some o → ((hp.push (PySem.W.kdv_tup [u])).push (PySem.HandSPX.excO C hp.objs.size)).get? b = some o := fun b o e => Heap.get?_push_of_some _ (Heap.get?_push_of_some _ e)
  have hget : ((hp.push (PySem.W.kdv_tup [u])).push (PySem.HandSPX.excO C hp.objs.size)).get? (hp.objs.size + 1) = some (PySem.HandSPX.excO C hp.objs.size) := by heap_get
  have x0 : X.base.get? (hp.objs.size + 1) = none := by
    cases e : X.base.get? (hp.objs.size + 1) with
    | none => rfl
    | some o =>
      have := Heap.lt_size (I1.bk _ _ e)
      exact absurd this (by show ¬ hp.objs.size + 1 < hp.objs.size; omega)
  have hsz2 : ((hp.push (PySem.W.kdv_tup [u])).push (PySem.HandSPX.excO C hp.objs.size)).objs.size = hp.objs.size + 2 := by rw [Heap.size_push, Heap.size_push]
  refine wpAny_call (PySem.HandSPX.call_own F.excBase_ValueError (fun Y => PySem.HandSPX.refsVE_contains Y bm hbm) (I1.kIn _ _ hC) (PySem.W.looks_findIn I1.kIn iC) (fun self => PySem.W.bind_fn I1.kIn self tI) (by show 1 ≤ sizeLine; decide) ?_)
  have room : (X.A.under (.builtin "type.__call__" ⟨.ref C :: [u], []⟩)).depth + 1 < recursionLimit := by
    have := (hr.make C [u] []).dp
    omega
  refine call_init B (fun b o e => kk b o (I1.bk b o e)) x0 SI SB T.ns OI ln ln2 room hget hpI hpB (bI _ _) (bB _) (fun h' tk' t1 dx k5' sz dne hx5 hn5 => ?_)
  refine ⟨rfl, ?_⟩
  rw [hsz2] at sz
  obtain ⟨G, g1, g2⟩ := restrict h' fun b => decide (b ≠ hp.objs.size + 1)
  have gk : ∀ b, b ≠ hp.objs.size + 1 → G.get? b = h'.get? b := fun b hb => g1 b (decide_eq_true hb)
  have ge : G.get? (hp.objs.size + 1) = none := g2 _ (by simp)
  have keepG : ∀ b o, hp.get? b = some o → G.get? b = some o := fun b o e => by
    have hb : b ≠ hp.objs.size + 1 := Nat.ne_of_lt (Nat.lt_succ_of_lt (Heap.lt_size e))
    rw [gk b hb]
    exact k5' b o hb (kk b o e)
  have hd1 : H1 dx = none := I1.hok.fresh (Nat.le_trans (Nat.le_add_right hp.objs.size 2) sz)
  have J : Inv X pins σ (upd H1 dx (.xd [("value", v)])) ⟨G, g, dr, tk', os⟩ := I1.laid (t' := tk') (a := dx) (o := .xd [("value", v)]) (h' := G) keepG (Nat.le_trans (Nat.le_add_right hp.objs.size 2) sz)
    ⟨_, hn5.at fun o y => (gk dx dne).trans y, relO_put (fs := []) (mA := fun _ => none) ru fun g => True.intro⟩
  refine ⟨hp.objs.size + 1, _, _, ⟨G, g, dr, tk', os⟩, upd H1 dx (.xd [("value", v)]), .ref C, some dx, rfl, J, fun b o e => ?_, ge, hx5, ⟨rfl, rfl⟩, rfl, rfl, ?_, rfl, I1.bare, raises_own T.exC T.tyC, q1 dx hd1⟩
  · by_cases hb : b = hp.objs.size + 1
    · rw [hb, ge] at e
      cases e
    · exact (gk b hb).symm.trans e
  · rw [upd_ne dne.symm]
    exact hn
end ExS
set_option Elab.async false
set_option linter.all false
set_option maxRecDepth 100000
set_option maxHeartbeats 4000000
namespace ExS
open PySem PySem.Spec PyProof.Rows L2
theorem pmk_bill0 {X : Cx} {x : Str} {C : Addr} {k : Nat} {p pos : Pos} (T : BillX X.prog X.K X.mg C x) (hr : Room (k + 1) X.A) (hg : Gl X x)
    (hdb : (x == ("__debug__" : Str)) = false := by decide)  :
    PMk X (.Call (.Name x p) [] [] pos) (fun _ H Q => ∀ d, H d = none → Q (.ref C) (some d) (upd H d (.xd [("value", .non)]))) := by
  intro pins s σ H Q I h
  obtain ⟨nm, qn, N, bs, bm, hdct, sn, sub, ab, col, dd, k0, k1, k2, k3, k5, hC, hbm⟩ := T.cls
  obtain ⟨fI, cdaI, ccI, DB, fB, cdaB, ccB, qI, qB, parI, parB, fdI, fdB, p0, p1, p2, p3, p4, p5, p6, p7, p8, r0, r1, r2, r3, r4, SI, SB, OI, ln, ln2, hpI, hpB, bI, bI0, bIk, bB, iC, tI⟩ := T.ex
  refine wpAny_Call_Name_kw (ld_glob I hg T.gC ?_ hdb)
  refine PySem.W.callWith_K0 I.kIn T.kC ?_
  show wpAny _ _ (call (.ref C) []) _ _ _
  obtain ⟨hp, g, dr, tk, os⟩ := s
  obtain ⟨mb, gb, eb⟩ := I.mod.blt
  have B : Bs X.K X.mg mb X.base := ⟨I.mod.kin, I.mod.glob, gb, T.sup, (eb "super" (by decide)).trans (by decide +kernel), I.mod.nolimit⟩
  have hn : H (hp.objs.size + 1) = none := I.hok.fresh (Nat.le_succ _)
  have kk : ∀ b o, hp.get? b = some o → ((hp.push (PySem.W.kdv_tup [])).push (PySem.HandSPX.excO C hp.objs.size)).get? b = some o := fun b o e => Heap.get?_push_of_some _ (Heap.get?_push_of_some _ e)
  have hget : ((hp.push (PySem.W.kdv_tup [])).push (PySem.HandSPX.excO C hp.objs.size)).get? (hp.objs.size + 1) = some (PySem.HandSPX.excO C hp.objs.size) := by heap_get
  have x0 : X.base.get? (hp.objs.size + 1) = none := by
    cases e : X.base.get? (hp.objs.size + 1) with
    | none => rfl
    | some o =>
      have := Heap.lt_size (I.bk _ _ e)
      exact absurd this (by show ¬ hp.objs.size + 1 < hp.objs.size; omega)
  have hsz2 : ((hp.push (PySem.W.kdv_tup [])).push (PySem.HandSPX.excO C hp.objs.size)).objs.size = hp.objs.size + 2 := by rw [Heap.size_push, Heap.size_push]
  refine wpAny_call (PySem.HandSPX.call_own F.excBase_ValueError (fun Y => PySem.HandSPX.refsVE_contains Y bm hbm) (I.kIn _ _ hC) (PySem.W.looks_findIn I.kIn iC) (fun self => PySem.W.bind_fn I.kIn self tI) (by show 0 ≤ sizeLine; decide) ?_)
  have room : (X.A.under (.builtin "type.__call__" ⟨.ref C :: [], []⟩)).depth + 1 < recursionLimit := by
    have := (hr.make C [] []).dp
    omega
  refine call_init B (fun b o e => kk b o (I.bk b o e)) x0 SI SB T.ns OI ln ln2 room hget hpI hpB (bI0 _) (bB _) (fun h' tk' t1 dx k5' sz dne hx5 hn5 => ?_)
  refine ⟨rfl, ?_⟩
  rw [hsz2] at sz
  obtain ⟨G, g1, g2⟩ := restrict h' fun b => decide (b ≠ hp.objs.size + 1)
  have gk : ∀ b, b ≠ hp.objs.size + 1 → G.get? b = h'.get? b := fun b hb => g1 b (decide_eq_true hb)
  have ge : G.get? (hp.objs.size + 1) = none := g2 _ (by simp)
  have keepG : ∀ b o, hp.get? b = some o → G.get? b = some o := fun b o e => by
    have hb : b ≠ hp.objs.size + 1 := Nat.ne_of_lt (Nat.lt_succ_of_lt (Heap.lt_size e))
    rw [gk b hb]
    exact k5' b o hb (kk b o e)
  have hd1 : H dx = none := I.hok.fresh (Nat.le_trans (Nat.le_add_right hp.objs.size 2) sz)
  have J : Inv X pins σ (upd H dx (.xd [("value", .non)])) ⟨G, g, dr, tk', os⟩ := I.laid (t' := tk') (a := dx) (o := .xd [("value", .non)]) (h' := G) keepG (Nat.le_trans (Nat.le_add_right hp.objs.size 2) sz)
    ⟨_, hn5.at fun o y => (gk dx dne).trans y, relO_put (fs := []) (mA := fun _ => none) (y := .non) (u := Value.none) rfl fun g => True.intro⟩
  refine ⟨hp.objs.size + 1, _, _, ⟨G, g, dr, tk', os⟩, upd H dx (.xd [("value", .non)]), .ref C, some dx, rfl, J, fun b o e => ?_, ge, hx5, ⟨rfl, rfl⟩, rfl, rfl, ?_, rfl, I.bare, raises_own T.exC T.tyC, h dx hd1⟩
  · by_cases hb : b = hp.objs.size + 1
    · rw [hb, ge] at e
      cases e
    · exact (gk b hb).symm.trans e
  · rw [upd_ne dne.symm]
    exact hn
end ExS
set_option Elab.async false
set_option linter.all false
set_option maxRecDepth 100000
set_option maxHeartbeats 4000000
/-! except X as e: suite, where the exception is kept behind the suite, in another name. -/
namespace ExS
open PySem PySem.Spec PyProof.Rows L2
/-- an exception that was caught and is kept, of the class cls, its dict at d -/
def ExK (cls : Value) (d : Option Addr) (a : Addr) : HO := .ext fun h => ∃ (oe : Obj) (vs : Array Value), h.get? a = some oe ∧ Zc cls d oe ∧ oe.data = .fields vs
theorem exK_ok {P : Program} {w : World} {H : Hp} {h : Heap} {a : Addr} {cls : Value} {d : Option Addr} {oe : Obj} {vs : Array Value} (e : h.get? a = some oe) (z : Zc cls d oe) (q : oe.data = .fields vs) : ObjOk P w H h a (ExK cls d a) :=
  ⟨⟨oe, vs, e, z, q⟩, ⟨oe, e⟩, fun _ _ ⟨o, v, q, r⟩ k => ⟨o, v, k o q, r⟩⟩
section
variable {X : Cx} {pins : List (Addr × Obj)} {σ : L2.St} {H : Hp} {s : Shared} {a : Addr} {oe : Obj} {vs : Array Value} {cls : Value} {d : Option Addr}
theorem Inv.unsuiteP {pn' : List (Addr × Obj)} {q : Addr × Obj} (I : Inv (X.suite a (q :: (X.pn ++ pins))) pn' σ H s) (ok : X.Ok) : Inv X (q :: pins) σ H s :=
  ⟨ok, I.os, I.bare, I.base, I.loc, I.cell, I.free, I.freeC, fun p hp => I.pin p (List.mem_append_left _ (by
    rcases List.mem_append.mp hp with h | h
    · exact List.mem_cons_of_mem _ (List.mem_append_left _ h)
    · rcases List.mem_cons.mp h with h | h
      · rw [h]
        exact List.mem_cons_self ..
      · exact List.mem_cons_of_mem _ (List.mem_append_right _ h))), I.hok, I.len⟩
/-- what is pinned is known from now on -/
theorem Inv.kept (I : Inv X ((a, oe) :: pins) σ H s) (z : Zc cls d oe) (hd : oe.data = .fields vs) (n0 : X.s_0.heap.get? a = none) (hp : ∀ p ∈ X.pn ++ pins, p.1 ≠ a) : Inv X pins σ (upd H a (ExK cls d a)) s := by
  obtain ⟨ha, na, nL, nF, nc⟩ := I.pin (a, oe) (List.mem_append_right _ (List.mem_cons_self ..))
  have ne0 : ∀ b o, X.s_0.heap.get? b = some o → b ≠ a := fun b o e y => by
    rw [y, n0] at e
    cases e
  have neH : ∀ {b : Addr} {o : HO}, H b = some o → b ≠ a := fun {b o} e y => by
    rw [y, na] at e
    cases e
  have cne : ∀ x c, X.env.cells.lookup x = some c → c ≠ a := fun x c e y => by
    obtain ⟨v, o, ho, hv⟩ := I.cell x c e
    rw [y] at ho
    have := Option.some.inj (ho.symm.trans ha)
    rw [this] at hv
    exact nc _ hv
  refine ⟨I.ok, I.os, I.bare, ⟨I.base.keep, I.base.slot, fun b o e n hx => ?_, I.base.there, fun b xs e => ?_, fun b o u e => ?_, fun b ps e => ?_⟩, I.loc, I.cell, ?_, fun x c e => ?_, fun p hpp => ?_, fun b u e => ?_, I.len⟩
  · rw [upd_ne (ne0 b o e)]
    exact I.base.free b o e n hx
  · have z := I.base.tups b xs e
    rw [upd_ne (neH z)]
    exact z
  · have z := I.base.frzs b o u e
    rw [upd_ne (neH z)]
    exact z
  · obtain ⟨more, z⟩ := I.base.tbls b ps e
    exact ⟨more, by rw [upd_ne (neH z)]; exact z⟩
  · rw [upd_ne (Ne.symm nL)]
    exact I.free
  · rw [upd_ne (cne x c e)]
    exact I.freeC x c e
  · obtain ⟨e, n, ne, nf, dd⟩ := I.pin p (by
      rcases List.mem_append.mp hpp with h | h
      · exact List.mem_append_left _ h
      · exact List.mem_append_right _ (List.mem_cons_of_mem _ h))
    exact ⟨e, by rw [upd_ne (hp p hpp)]; exact n, ne, nf, dd⟩
  · by_cases hb : b = a
    · rw [hb] at e ⊢
      rw [upd_same] at e
      cases e
      exact exK_ok ha z hd
    · rw [upd_ne hb] at e
      exact (I.hok b u e).stay (fun c v _ q => q) (fun c q => by rw [upd_ne (neH q)]; exact q) fun c xs q => by rw [upd_ne (neH q)]; exact q
end
/-- what the clause 'except x as n' wishes of an exception of the body, which is kept behind the suite -/
def wKeep (K : PySem.W.Frag) (c : Value) (i : Nat) (ts : Addr → Value → Option Addr → TS) (Wout : WX) (D : Ends) : WX := fun cls d σ H =>
  ∃ b, PySem.W.exmOne K cls c = some b ∧ (b = true → ∀ a, H a = none → ts a cls d { nx := fun σ' H' => D.nx (σ'.set i none) (upd H' a (ExK cls d a)), rt := fun _ _ => False, bk := fun _ _ => False, ct := fun _ _ => False } (σ.set i (some (.ref a))) H) ∧
    (b = false → Wout cls d σ H)
section
variable {X : Cx} {x n : Str} {c : Value} {i : Nat} {body suite : List Stmt} {b₀ : Stmt} {np pos pos' : Pos} {tb : WX → TS} {ts : Addr → Value → Option Addr → TS} {Wout : WX}
theorem ps_try_keep (hs : X.stack = X.env :: X.outer) (hf : X.env.frame = some X.env.locals) (hN : X.N.Nodup) (hi : X.N[i]? = some n) (hln : X.env.kindOf n = some .local) (hc : Names X x c) (tk : Takes X Wout) (hex : X.ex = [])
    (hb : ∀ (W : WX) (pn : List (Addr × Obj)) (xe : Value → Shared → Prop), Takes (X.tr pn xe) W → PassesOwn (model X.prog X.w) X.A X.env xe → PSs (X.tr pn xe) body (tb W))
    (hsu : ∀ (a : Addr) (oe : Obj) (cls : Value) (d : Option Addr) (pn : List (Addr × Obj)), Zc cls d oe → (∃ vs, oe.data = .fields vs) → PSs (X.suite a ((a, oe) :: pn)) (b₀ :: suite) (ts a cls d)) :
    PS X (.Try body [.ExceptHandler (some (.Name x np)) (some n) (b₀ :: suite) pos'] [] [] pos) (fun D σ H => tb (wKeep X.K c i ts Wout D) D σ H) := by
  refine ⟨fun pins s σ H D I h => ?_⟩
  have ok := I.ok
  have hfr : X.A.frames = some (X.env :: X.outer) := by rw [ok.frames, hs]
  have hloc : Loc X.env.scope n := .inl hln
  refine wpAny_Try_except ?_
  refine wpAny_mono ((hb (wKeep X.K c i ts Wout D) (X.pn ++ pins) (fun e s₁ => wpAny (model X.prog X.w) X.A (noteFrame e X.env) (fun _ s₂ => wpAny (model X.prog X.w) X.A (setFlight e none) (fun _ s₃ =>
    wpAny (model X.prog X.w) X.A (handleBy e X.env [.ExceptHandler (some (.Name x np)) (some n) (b₀ :: suite) pos']) (SP X pins D) X.xe s₃) X.xe s₂) X.xe s₁) (fun u s' xx => ?_) PassesOwn.looking).run [] s σ H D (I.toTry _) h) (fun f s1 hsp => ?_) (fun e s1 he => he)
  · -- the catch
    obtain ⟨a, B, sI, pins', σ', H', cls, d, rfl, J', nb, up, sky, na, os, ag, b, hb1, hyes, hno⟩ := xx
    have J : Inv X pins σ' H' sI := J'.ofTry ok
    have sky' : Sky B (X.env :: X.outer) a (Zc cls d) X.env.locals s'.heap := by rw [← hs]; exact sky
    have Ba : B.get? a = none := by
      rcases sky' with z | z | z
      · exact z.2.1
      · exact z.2.1
      · exact z.2.1
    show wpAny (model X.prog X.w) X.A (noteFrame (.ref a) X.env) _ _ _
    refine Sky.land Zc.steady hfr hf sky' fun h3 fl3 up3 => ?_
    have J3 : Inv X pins σ' H' { s' with heap := h3 } := J.landed nb fl3.1 (up.trans up3) os ag
    obtain ⟨oe3, vs3, he3, hz3, hd3⟩ := fl3.there
    have notFr : ∀ {h : Heap} {o : Obj} {vs : Array Value}, h.FunFrames B (X.env :: X.outer) → h.get? a = some o → o.data = .fields vs → a ∉ frs (X.env :: X.outer) := fun {h o vs} ff e dd hm => by
      obtain ⟨_, o', e', hnf⟩ := ff.mem hm
      rw [e] at e'; cases e'
      exact hnf _ dd
    have nfr := notFr fl3.2.2.1 he3 hd3
    have nL : a ≠ X.env.locals := fun z => nfr (List.mem_filterMap.mpr ⟨X.env, List.mem_cons_self, by rw [hf, z]⟩)
    have nF : a ∉ X.fs := fun hm => by
      obtain ⟨e, he, q⟩ := List.mem_filterMap.mp hm
      exact nfr (List.mem_filterMap.mpr ⟨e, List.mem_cons_of_mem _ he, q⟩)
    have nI : sI.heap.get? a = none := by
      cases e : sI.heap.get? a with
      | none => rfl
      | some o =>
        have z := nb a o e (by rw [hs]; exact nfr)
        rw [Ba] at z
        cases z
    have n0 : X.s_0.heap.get? a = none := by
      cases e : X.s_0.heap.get? a with
      | none => rfl
      | some o =>
        obtain ⟨o', z⟩ := J.base.there a o e (by rw [hex]; exact List.not_mem_nil)
        rw [nI] at z
        cases z
    have hpn : ∀ p ∈ X.pn ++ pins, p.1 ≠ a := fun p hp y => by
      have z := (J.pin p hp).1
      rw [y, nI] at z
      cases z
    have S3 := J3.suite he3 hd3 na nL nF
    refine wpAny_handleBy_cons (codeAny_handlers_test ?_) (by intro q; cases q)
    have LT : PySem.W.Looks (model X.prog X.w) h3 (typeOf (.ref a)) cls := fun A Q E s k q => wpAny_typeOf_ref (k _ _ he3) (by rw [hz3.1]; exact q)
    have LM := PySem.W.exm_one (M := model X.prog X.w) (J3.kIn) LT hb1
    have test : ∀ {Q : Value → Shared → Prop} {E : Value → Shared → Prop}, Q c { s' with heap := h3 } → wpAny (model X.prog X.w) (X.A.mark (some (.ref a))) (eval (.Name x np) X.env) Q E { s' with heap := h3 } := fun {Q E} q => by
      obtain ⟨hg, hdbg, hm | ⟨hm, hv, hnn⟩⟩ := hc
      · exact ld_glob (X := X.suite a ((a, oe3) :: (X.pn ++ pins))) S3 hg hm q hdbg
      · exact ld_blt (X := X.suite a ((a, oe3) :: (X.pn ++ pins))) S3 hg hm hv q hnn hdbg
    refine test (LM.here ?_)
    cases b with
    | true =>
      refine codeAny_handlers_suite_as ?_
      refine HandSPX.lands_againZ fl3 fun h4 fl4 up4 => ?_
      have J4 : Inv X pins σ' H' { s' with heap := h4 } := J.landed nb fl4.1 ((up.trans up3).trans up4) os ag
      obtain ⟨oe4, vs4, he4, hz4, hd4⟩ := fl4.there
      have S4 := J4.suite he4 hd4 na nL nF
      refine store_ok (X := X.suite a ((a, oe4) :: (X.pn ++ pins))) (v := .ref a) S4 hN hi hloc rfl (fun s5 S5 => ?_) (.inr hln)
      refine wpAny_mono ((hsu a oe4 cls d (X.pn ++ pins) hz4 ⟨_, hd4⟩).run [] s5 _ H' _ S5 (hyes rfl a na)) (fun f s6 hsp => ?_) (fun _ _ z => False.elim z)
      cases f with
      | next =>
        obtain ⟨σ6, H6, S6, q6⟩ := hsp
        exact gone_ok (ExS.Inv.unsuiteP S6 ok) hN hi hln fun s7 J7 => ⟨_, _, ExS.Inv.kept J7 hz4 hd4 n0 hpn, q6⟩
      | brk =>
        obtain ⟨σ6, H6, S6, q6⟩ := hsp
        exact q6.elim
      | cont =>
        obtain ⟨σ6, H6, S6, q6⟩ := hsp
        exact q6.elim
      | ret u =>
        obtain ⟨v6, σ6, H6, S6, r6, q6⟩ := hsp
        exact q6.elim
    | false =>
      show wpAny _ X.A (handleBy (.ref a) X.env []) _ _ _
      refine wpAny_handleBy_nil ?_
      obtain ⟨k1, k2, k3, oe, vs, T, oT, ts', he, hz, hd, h1, hr⟩ := id fl3
      unfold PySem.passOn
      refine wpAny_bind (wpAny_field he hd h1 ?_)
      rw [if_neg (show ¬ ((Value.ref T == Value.none) = true) from by simp)]
      have fin : wpAny (model X.prog X.w) X.A (setFlight (.ref a) X.env.frame) (fun _ s4 => wpAny (model X.prog X.w) X.A (throw (.ref a) : Sem Flow) (SP X pins D) X.xe s4) X.xe { s' with heap := h3 } := by
        rw [hf]
        refine HandSPX.setFlight_upZ fl3 fun h4 hh4 up4 => wpAny_throw (tk _ _ ?_)
        exact ⟨a, B, sI, pins, σ', H', cls, d, rfl, J, nb, (up.trans up3).trans up4, .inr (.inr (by rw [hs]; exact hh4)), na, os, ag, hno rfl⟩
      first
        | exact wpAny_bind (wpAny_pure (wpAny_bind fin))
        | exact wpAny_bind fin
  · cases f with
    | next =>
      obtain ⟨σ', H', J', q⟩ := hsp
      exact wpAny_execs_nil ⟨σ', H', J'.ofTry ok, q⟩
    | brk =>
      obtain ⟨σ', H', J', q⟩ := hsp
      exact ⟨σ', H', J'.ofTry ok, q⟩
    | cont =>
      obtain ⟨σ', H', J', q⟩ := hsp
      exact ⟨σ', H', J'.ofTry ok, q⟩
    | ret u =>
      obtain ⟨v, σ', H', J', r, q⟩ := hsp
      exact ⟨v, σ', H', J'.ofTry ok, r, q⟩
end
end ExS
set_option Elab.async false
set_option linter.all false
set_option maxRecDepth 100000
set_option maxHeartbeats 4000000
/-! isinstance of such an exception, and its field. -/
namespace ExS
open PySem PySem.Spec PyProof.Rows L2
theorem exK_at {P : Program} {w : World} {H : Hp} {h : Heap} {a : Addr} {cls : Value} {d : Option Addr} (hok : HOk P w H h) (e : H a = some (ExK cls d a)) : ∃ (oe : Obj) (vs : Array Value), h.get? a = some oe ∧ Zc cls d oe ∧ oe.data = .fields vs := by
  have x : ObjOk P w H h a (ExK cls d a) := hok a _ e
  exact x.1
theorem inst_at {P : Program} {w : World} {H : Hp} {h : Heap} {a D dx : Addr} {fs : List (Str × V)} (hok : HOk P w H h) (e : H a = some (ExK (.ref D) (some dx) a)) (ed : H dx = some (.xd fs)) : ∃ (oe od : Obj) (mA : Str → Option Value), PySem.W.InstAt h a oe D (some od) ∧ (∀ f, RelO (fs.lookup f) (mA f)) ∧ ∀ n : Str, PySem.W.lookIn n od = some (mA n) := by
  obtain ⟨oe, vs, ha, hz, hd⟩ := exK_at hok e
  have hx : ObjOk P w H h dx (.xd fs) := hok dx _ ed
  obtain ⟨mA, hns, hr⟩ := hx
  obtain ⟨od, ho, hl⟩ := lookIn_ns hns
  exact ⟨oe, od, mA, ⟨ha, hz.1, by unfold PySem.W.notCls; rw [hd] <;> rfl, by rw [hz.2]; exact ho⟩, hr, hl⟩
/-- isinstance(x, c): of whatever, also of an exception that is kept -/
def rIsX (K : PySem.W.Frag) : List V → Hp → VK → Prop := fun xs H Q => rIsi K xs H Q ∨
  ∃ (a D dx : Addr) (fs : List (Str × V)) (c : V) (cv : Value) (b : Bool), xs = [.ref a, c] ∧ H a = some (ExK (.ref D) (some dx) a) ∧ H dx = some (.xd fs) ∧ ExcC K D ∧ ClsV c cv ∧ PySem.W.kitOne K (.ref D) cv = some b ∧ Q (.bl b) H
theorem call_isX {X : Cx} : CallR X (.builtin "isinstance") (rIsX X.K) := by
  intro pins s σ H xs us Q I r h
  rcases h with h | ⟨a, D, dx, fs, c, cv, b, rfl, ea, ed, C, hcv, e, q⟩
  · exact call_isi pins s σ H xs us Q I r h
  · obtain ⟨u1, u2, rfl, r1, r2⟩ := vals2 r
    cases r1
    have e2 := hcv.eq r2
    subst e2
    obtain ⟨oe, od, mA, J, _, _⟩ := inst_at I.hok ea ed
    have hcl : (PySem.W.clsIn X.K D).isSome = true := by
      obtain ⟨cd, hc, _⟩ := PySem.W.any_some C.hd
      rw [hc]
      rfl
    exact PySem.W.kia_one (PySem.W.kitx_exc hcl C.hg C.hk C.hs C.ha C.hn C.ht C.hm) I.kIn J e (fun z => nomatch z) fun tk => ⟨.bl b, H, I.kept (t' := tk) fun _ _ z => z, rfl, q⟩
/-- e.value, e such an exception -/
def tKf (K : PySem.W.Frag) (n : Str) (te : TE) : TE := fun σ H Q => te σ H fun x H1 => ∃ (a C dd : Addr) (fs : List (Str × V)) (v : V), x = .ref a ∧ H1 a = some (ExK (.ref C) (some dd) a) ∧ XfC K C ∧ PySem.W.findIn K (.ref C) n = some none ∧ H1 dd = some (.xd fs) ∧ fs.lookup n = some v ∧ Q v H1
theorem pe_kf {X : Cx} {e : Expr} {te : TE} {pos : Pos} {n : Str} (he : PE X e te) (hb : attributeBase e n X.env (eval e X.env) = eval e X.env := by rfl) : PE X (.Attribute e n pos) (tKf X.K n te) := by
  refine ⟨fun pins s σ H Q I h => ?_⟩
  refine attr_of hb (thn (he.run pins s σ H _ I h) fun u s1 hh => ?_)
  obtain ⟨x, H1, I1, rx, a, C, dd, fs, v, ex, ea, T, hno, ed, l, q⟩ := hh
  subst ex
  obtain rfl : u = Value.ref a := rx
  obtain ⟨oe, od, mA, J, hr, hl⟩ := inst_at I1.hok ea ed
  obtain ⟨u, hu, ru⟩ := RelO.some_of (v := v) (o := mA n) (by rw [← l]; exact hr n)
  exact HandSPX.exc_get I1.kIn J T.ga T.gg T.exC (PySem.W.findObj_own T.hdC hno rfl (by rw [hl, hu])) (handed_of ru) ⟨v, H1, I1.tok _, ru, q⟩
end ExS
set_option Elab.async false
set_option linter.all false
set_option maxRecDepth 100000
set_option maxHeartbeats 4000000
namespace Cb
open PySem PySem.Spec PyProof.Rows L2 ExS
/-! ### defs that may raise -/
def SaysX (P : Program) (w : World) (K : PySem.W.Frag) (mg : Str → Option Value) (base : Heap) (k : Nat) (x : Str) (ps : List Str) (sp : Sp) : Prop :=
  ∃ (f : Addr) (fd : FuncData), FnOk P w K mg base (L2.CX P w) k f fd ps sp ∧ mg x = some (.ref f) ∧ PySem.W.keepIn K (.ref f) = true ∧ Binds K fd ps []
/-- by place and by keywords -/
def Has2 (K : PySem.W.Frag) (mg : Str → Option Value) (x : Str) (st : Stmt) (ps ks : List Str) (g : {α : Type} → List α → List α) : Prop :=
  ∃ (f : Addr) (fd : FuncData), Fun K x x st f fd ∧ mg x = some (.ref f) ∧ Binds K fd ps [] ∧ KBinds K fd ps ks (kOnly g) (kOnly g)
def SaysX2 (P : Program) (w : World) (K : PySem.W.Frag) (mg : Str → Option Value) (base : Heap) (k : Nat) (x : Str) (ps ks : List Str) (g : {α : Type} → List α → List α) (sp : Sp) : Prop :=
  ∃ (f : Addr) (fd : FuncData), FnOk P w K mg base (L2.CX P w) k f fd ps sp ∧ mg x = some (.ref f) ∧ PySem.W.keepIn K (.ref f) = true ∧ Binds K fd ps [] ∧ KBinds K fd ps ks (kOnly g) (kOnly g)
/-- the wish of what is raised is never asked -/
def calmSp (sp : Sp) : Sp := fun vs H Q _ => sp vs H Q E0
section
variable {P : Program} {w : World} {K : PySem.W.Frag} {mg : Str → Option Value} {base : Heap} {k : Nat} {x : Str} {st : Stmt} {N ps ks : List Str} {sp : Sp} {g : {α : Type} → List α → List α}
theorem fn_calm {f : Addr} {fd : FuncData} (F : FnOk P w K mg base (L2.CX P w) k f fd ps sp) : FnOk P w K mg base CX0 k f fd ps (calmSp sp) := by
  refine ⟨fun vs H Q E h => F.len vs H Q E0 h, fun A outer s H args us vs Q E hr he hb hv hs => ?_⟩
  refine codeAny_mono (F.run A outer s H args us vs Q E0 hr he hb hv hs) ?_
  intro r s' h
  match r, h with
  | .ok (.ret u), h => exact h
  | .ok .next, h => exact h
  | .ok .brk, h => exact h
  | .ok .cont, h => exact h
  | .error e, h =>
    obtain ⟨_, _, _, _, _, _, _, _, _, _, _, _, z⟩ := h
    exact z.elim
theorem saysX (h : Has K mg x st ps) (S : FnScope N ps (defScope st)) (len : ∀ vs H Q E, sp vs H Q E → vs.length = ps.length)
    (body : ∀ (f : Addr) (cdv : Value) (A : Around) (outer : List Env) (s : Shared) (H : Hp) (vs : List V) (Q : VK) (E : XK), Room k (A.deeper (envOfC x (defScope st) s.heap.objs.size f cdv)) → sp vs H Q E →
      ∃ t, PSs (cxOf (L2.CX P w) P w K mg base N x (defScope st) f cdv A outer s H E) (defBody st) t ∧ t { nx := fun _ H' => Q .non H', rt := Q } (start N vs) H) : SaysX P w K mg base (k + 1) x ps sp := by
  obtain ⟨f, fd, F, hm, b⟩ := h
  exact ⟨f, fd, F.okX S len fun cdv A outer s H vs Q E => body f cdv A outer s H vs Q E, hm, F.kp, b⟩
theorem saysX2 (h : Has2 K mg x st ps ks g) (S : FnScope N ps (defScope st)) (len : ∀ vs H Q E, sp vs H Q E → vs.length = ps.length)
    (body : ∀ (f : Addr) (cdv : Value) (A : Around) (outer : List Env) (s : Shared) (H : Hp) (vs : List V) (Q : VK) (E : XK), Room k (A.deeper (envOfC x (defScope st) s.heap.objs.size f cdv)) → sp vs H Q E →
      ∃ t, PSs (cxOf (L2.CX P w) P w K mg base N x (defScope st) f cdv A outer s H E) (defBody st) t ∧ t { nx := fun _ H' => Q .non H', rt := Q } (start N vs) H) : SaysX2 P w K mg base (k + 1) x ps ks g sp := by
  obtain ⟨f, fd, F, hm, b, kb⟩ := h
  exact ⟨f, fd, F.okX S len fun cdv A outer s H vs Q E => body f cdv A outer s H vs Q E, hm, F.kp, b, kb⟩
theorem SaysX2.toX (c : SaysX2 P w K mg base k x ps ks g sp) : SaysX P w K mg base k x ps sp := by
  obtain ⟨f, fd, F, hm, kp, b, kb⟩ := c
  exact ⟨f, fd, F, hm, kp, b⟩
theorem SaysX2.calmK (c : SaysX2 P w K mg base k x ps ks g sp) : SaysK P w K mg base k x ps ks g (calmSp sp) := by
  obtain ⟨f, fd, F, hm, kp, b, kb⟩ := c
  exact ⟨f, fd, fn_calm F, hm, kp, kb⟩
theorem SaysX.calm (c : SaysX P w K mg base k x ps sp) : Says P w K mg base k x ps (calmSp sp) := by
  obtain ⟨f, fd, F, hm, kp, b⟩ := c
  exact ⟨f, fd, fn_calm F, hm, kp, b⟩
theorem has2 {f : Addr} {oc : Value} {od an : Option Addr} {osl : Array (Option Value)} {kV doc pm cdv ct : Value} {h : Heap} (X : K.In h) (G : h.Ns mainGlobals mg) (a : PySem.W.nsIn K mainGlobals x = some (some (.ref f)))
    (l : K.lookup f = some ⟨oc, od, .func (PySem.W.fnOf x x (defArgs st) (defBody st) (defScope st) .none kV doc pm an cdv ct), osl⟩) (c : PySem.W.codeIn K cdv x = true) (kp : PySem.W.keepIn K (.ref f) = true)
    (b : ∀ (kV doc pm : Value) (an : Option Addr) (cdv ct : Value) (us : List Value), us.length = ps.length → bindArgs (PySem.W.fnOf x x (defArgs st) (defBody st) (defScope st) .none kV doc pm an cdv ct) ⟨us, []⟩ = pure (ps.zip us))
    (kb : KBinds K (PySem.W.fnOf x x (defArgs st) (defBody st) (defScope st) .none kV doc pm an cdv ct) ps ks (kOnly g) (kOnly g)) :
    Has2 K mg x st ps ks g := ⟨f, _, fun_mk l c kp, PySem.W.mg_of X G a, (fun_mk l c kp).binds b, kb⟩
theorem Has2.has (h : Has2 K mg x st ps ks g) : Has K mg x st ps := by
  obtain ⟨f, fd, F, hm, b, kb⟩ := h
  exact ⟨f, fd, F, hm, b⟩
end
section
variable {X : Cx} {W : WX} {k j : Nat} {x : Str} {ps : List Str} {sp : Sp} {p pos : Pos} {e : Expr} {es : List Expr} {t : TA}
theorem pe_sx (c : SaysX X.prog X.w X.K X.mg X.base k x ps sp) (hr : Room j X.A) (tk : Takes X W) (ha : PA X (e :: es) t) (le : k ≤ j := by decide) (gl : Gl X x := by rfl) (nd : (x == ("__debug__" : Str)) = false := by decide)
    (se : starEach (e :: es) X.env = (false, eval e X.env) :: starEach es X.env := by rfl) (pl : (backTo pos (starEach es X.env)).any (·.1) = false := by rfl) : PE X (.Call (.Name x p) (e :: es) [] pos) (tCallS sp (WE W) t) := by
  obtain ⟨f, fd, F, hm, kp, b⟩ := c
  exact pe_callS F (hr.mono le) gl hm kp b (fun σ => passAt tk σ) ha nd se pl
end
def raised (E : XK) (C : Addr) (v : V) (H : Hp) : Prop := ∀ dd, H dd = none → E (.ref C) (some dd) (upd H dd (.xd [("value", v)]))
end Cb
set_option Elab.async false
set_option linter.all false
set_option maxRecDepth 100000
set_option maxHeartbeats 4000000
/-! An exception made and held as a value. -/
namespace ExS
open PySem PySem.Spec PyProof.Rows L2
/-- an exception that is made, not raised: tracked from now on -/
def tMade (t : L2.St → Hp → XK → Prop) : TE := fun σ H Q => t σ H fun cls d H' => ∀ a, H' a = none → Q (.ref a) (upd H' a (ExK cls d a))
theorem pe_made {X : Cx} {e : Expr} {t : L2.St → Hp → XK → Prop} (h : PMk X e t) : PE X e (tMade t) := by
  refine ⟨fun pins s σ H Q I hq => ?_⟩
  refine wpAny_mono (h pins s σ H _ I hq) (fun u s1 hu => ?_) fun _ _ x => x
  obtain ⟨a, oe, vs, sI, H', cls, d, rfl, J, k, hne, ha, hz, hd, h1, na, os, ag, r, q⟩ := hu
  have J2 : Inv X pins σ H' ⟨sI.heap, s1.gens, s1.drawn, s1.toks, s1.os⟩ := ⟨J.ok, by rw [os]; exact J.os, ag, J.base, J.loc, J.cell, J.free, J.freeC, J.pin, J.hok, J.len⟩
  exact ⟨.ref a, _, J2.laidN (h' := s1.heap) (t' := s1.toks) k hne na (exK_ok ha hz hd), rfl, q a na⟩
/-- InvalidX(e) as a value -/
theorem pe_bill {X : Cx} {x : Str} {C : Addr} {e : Expr} {te : TE} {k : Nat} {p pos : Pos} (T : BillX X.prog X.K X.mg C x) (hr : Room (k + 1) X.A) (hg : Gl X x) (ha : PE X e te)
    (hdb : (x == ("__debug__" : Str)) = false := by decide) (he : starEach [e] X.env = (false, eval e X.env) :: starEach [] X.env := by rfl) (hpl : (backTo pos (starEach [] X.env)).any (·.1) = false := by rfl) :
    PE X (.Call (.Name x p) [e] [] pos) (tMade (tBill C te)) := pe_made (pmk_bill T hr hg ha hdb he hpl)
end ExS
set_option Elab.async false
set_option linter.all false
set_option maxRecDepth 100000
set_option maxHeartbeats 4000000
/-! An exception class called with keywords alone. -/
namespace ExS
open PySem PySem.Spec PySem.Calls PySem.HandSPX
section
variable {prog : Program} {w : World} {M : Model} {A : Around} {E : Value → Shared → Prop} {R : Result → Shared → Prop} {h : Heap} {g : Array GenState} {d : Drawn} {t : Nat} {os : OsState} {C N : Addr} {nm q : Str} {bs bm bmB : List Value} {hdct ab : Bool} {sn : List Str} {sub : List Value} {col : Option Bool} {dd : Option Addr} {k0 k1 k2 k3 k5 : Option Value} {B newId initId : String} {kw : List (Str × Value)}
theorem kw_new_check (F : ExcBaseFacts B newId initId bmB) (hT : ∀ X : String, bm.contains (.type X) = bmB.contains (.type X)) {Q : Unit → Shared → Prop}
    (hC : h.get? C = some (excClassObj nm q C N bs bm hdct sn sub ab col dd k0 k1 k2 k3 k5 newId)) (hq : Q () ⟨h, g, d, t, os⟩) : wpAny M A (checkBuiltinCall newId ⟨[.ref C], kw⟩) Q E ⟨h, g, d, t, os⟩ := by
  have hB : (Value.ref C :: bm).contains (.type B) = true := by rw [List.contains_cons, hT, F.hasB, Bool.or_true]
  have hs := F.noStar
  simp only [checkBuiltinCall, F.newKind, F.newSplit, F.newRow]
  repeat (first | refine wpAny_loadPart_at hC ?_ | (refine wpAny_isSubtype_exc hC ?_; rw [hB]) | refine wpAny_staticBase_exc hC ?_ | refine wpAny_madeBy_exc hC ?_ | simp only [bne_self_eq_false, Bool.false_eq_true, if_false] | wp_step)
  exact hq
theorem kw_new (F : ExcBaseFacts B newId initId bmB) (hT : ∀ X : String, bm.contains (.type X) = bmB.contains (.type X))
    (hC : h.get? C = some (excClassObj nm q C N bs bm hdct sn sub ab col dd k0 k1 k2 k3 k5 newId))
    (hq : R (.ok (.ret (.ref (h.objs.size + 1)))) ⟨(h.push (PySem.W.kdv_tup [])).push (excO C h.objs.size), g, d, t, os⟩) :
    codeAny (model prog w) A (.builtin newId ⟨[.ref C], kw⟩) R ⟨h, g, d, t, os⟩ := by
  have hends := F.ends
  have hB : (Value.ref C :: bm).contains (.type B) = true := by rw [List.contains_cons, hT, F.hasB, Bool.or_true]
  have hA : (Value.ref C :: bm).contains (.type "AttributeError") = false := by rw [List.contains_cons, hT, F.noAttr]; rfl
  have hN : (Value.ref C :: bm).contains (.type "NameError") = false := by rw [List.contains_cons, hT, F.noName]; rfl
  refine codeAny_builtinAt F.entry ?_
  unfold Builtin.«BaseException.__new__»
  refine wpAt_bind ?_
  show wpAt _ _ _ (stack >>= _) _ _ _
  refine wpAt_bind (wpAt_stack fun p below => wpAt_of_wpAny ?_)
  wp_walk
  refine wpAt_of_wpAny ?_
  rw [F.owner]
  repeat (first | with_reducible refine wpAny_madeHere_exc F.canon hC ?_ | with_reducible refine wpAny_loadPart_at hC ?_ | (with_reducible refine wpAny_isSubtype_exc hC ?_; first | rw [hB] | rw [hA] | rw [hN]) | wp_step)
  show R _ _
  rw [Heap.size_push]
  exact hq
theorem kw_make (F : ExcBaseFacts B newId initId bmB) (hT : ∀ X : String, bm.contains (.type X) = bmB.contains (.type X)) {fI : Addr} {Q : Fin → Shared → Prop}
    (hC : h.get? C = some (excClassObj nm q C N bs bm hdct sn sub ab col dd k0 k1 k2 k3 k5 newId))
    (hi : W.Looks (model prog w) h (typeLookup (.ref C) "__init__") (some (.ref fI))) (hb : ∀ self, W.Looks (model prog w) h (bindSpecial (.ref fI) self) (.ref fI, [self]))
    (hq : codeAny (model prog w) A (.call (.ref fI) ⟨[.ref (h.objs.size + 1)], kw⟩)
      (fun r s' => match r with | .ok (.ret v) => v = .none ∧ Q (.done (.ret (.ref (h.objs.size + 1)))) s' | .ok _ => False | .error e => E e s')
      ⟨(h.push (W.kdv_tup [])).push (excO C h.objs.size), g, d, t, os⟩) :
    wpAny (model prog w) A (Builtin.«type.__call__» ⟨[.ref C], kw⟩) Q E ⟨h, g, d, t, os⟩ := by
  repeat (first | with_reducible refine wpAny_loadPart_at hC ?_ | with_reducible refine wpAny_madeBy_exc hC ?_ | wp_step)
  refine codeAny_call_builtin_code (Code.quiet_builtin _ F.quiet) (kw_new_check F hT hC ?_)
  refine kw_new F hT hC ?_
  show wpAny _ _ _ _ _ _
  have k : ∀ b o, h.get? b = some o → ((h.push (W.kdv_tup [])).push (excO C h.objs.size)).get? b = some o := fun b o e => Heap.get?_push_of_some _ (Heap.get?_push_of_some _ e)
  have hC1 := k _ _ hC
  have hx : ((h.push (W.kdv_tup [])).push (excO C h.objs.size)).get? (h.objs.size + 1) = some (excO C h.objs.size) := by heap_get
  have hs : (Value.ref C :: bm).contains (.ref C) = true := by simp
  have i1 := hi.keeps k
  have b1 := (hb (.ref (h.objs.size + 1))).keeps k
  unfold isInstance
  repeat (first | with_reducible refine wpAny_loadPart_at hx ?_ | (with_reducible refine wpAny_isSubtype_exc hC1 ?_; rw [hs]) | wp_step)
  show wpAny _ _ (typeLookup (.ref C) _) _ _ _
  refine i1.at ?_
  refine wpAny_holding (wpAny_bind (b1.at ?_))
  refine wpAny_bind (wpAny_call (codeAny_mono hq fun r s' z => ?_))
  rcases r with e | (v | _ | _ | _) <;> first | exact z | exact z.elim | skip
  obtain ⟨rfl, z⟩ := z
  first
    | exact wpAny_pure (wpAny_pure z)
    | (wp_walk; exact z)
theorem kw_call_check {Q : Unit → Shared → Prop} (hC : h.get? C = some (excClassObj nm q C N bs bm hdct sn sub ab col dd k0 k1 k2 k3 k5 newId))
    (hq : Q () ⟨h, g, d, t, os⟩) : wpAny M A (checkBuiltinCall "type.__call__" ⟨[.ref C], kw⟩) Q E ⟨h, g, d, t, os⟩ := by
  have f3 := tc_sub
  have hY : (⟨h, g, d, t, os⟩ : Shared).TypeIs (.ref C) "type" := ⟨_, hC, rfl⟩
  simp only [checkBuiltinCall, tc_kind, tc_split]
  repeat (any_goals (first | assumption | with_reducible refine wpAny_loadPart_at hC ?_ | with_reducible refine wpAny_onRaise ?_ | with_reducible refine wpAny_map ?_ | wp_step))
theorem kw_call (F : ExcBaseFacts B newId initId bmB) (hT : ∀ X : String, bm.contains (.type X) = bmB.contains (.type X)) {fI : Addr}
    (hC : h.get? C = some (excClassObj nm q C N bs bm hdct sn sub ab col dd k0 k1 k2 k3 k5 newId))
    (hi : W.Looks (model prog w) h (typeLookup (.ref C) "__init__") (some (.ref fI))) (hb : ∀ self, W.Looks (model prog w) h (bindSpecial (.ref fI) self) (.ref fI, [self]))
    (hq : codeAny (model prog w) (A.under (.builtin "type.__call__" ⟨[.ref C], kw⟩)) (.call (.ref fI) ⟨[.ref (h.objs.size + 1)], kw⟩) (W.InitBack (h.objs.size + 1) R)
      ⟨(h.push (W.kdv_tup [])).push (excO C h.objs.size), g, d, t, os⟩) :
    codeAny (model prog w) A (.call (.ref C) ⟨[], kw⟩) R ⟨h, g, d, t, os⟩ := by
  have f1 := tc_lookup
  have f2 := tc_bind (.ref C)
  have hY : (⟨h, g, d, t, os⟩ : Shared).TypeIs (.ref C) "type" := ⟨_, hC, rfl⟩
  refine codeAny_of_tree ?_
  show wpAny _ _ (callAny (.ref C) _) _ _ _
  repeat (any_goals (first | assumption | with_reducible refine wpAny_loadPart_at hC ?_ | wp_step))
  refine ⟨rfl, ?_⟩
  refine codeAny_call_builtin_at (Code.quiet_builtin _ (by decide +kernel)) entry_typeCall (kw_call_check hC (kw_make F hT hC hi hb ?_))
  refine codeAny_mono hq fun r s' z => ?_
  rcases r with e | (v | _ | _ | _) <;> exact z
end
end ExS
set_option Elab.async false
set_option linter.all false
set_option maxRecDepth 100000
set_option maxHeartbeats 4000000
namespace ExS
open PySem PySem.Spec PyProof.Rows L2
theorem pmk_billK {X : Cx} {x : Str} {C : Addr} {kw : Keyword} {te : TE} {k : Nat} {p pos : Pos} (T : BillX X.prog X.K X.mg C x) (hr : Room (k + 1) X.A) (hg : Gl X x) (ha : PK X [kw] (tCons te tNil)) (hks : (backToKw pos (keywordEach [kw] X.env)).filterMap (·.1) = [("value" : Str)] := by rfl) (hall : (backToKw pos (keywordEach [kw] X.env)).all (·.1.isSome) = true := by rfl)
    (hdb : (x == ("__debug__" : Str)) = false := by decide) (hpl : ((backTo pos (starEach [] X.env)).any (·.1) || (backToKw pos (keywordEach [kw] X.env)).any (·.1.isNone)) = false := by rfl) :
    PMk X (.Call (.Name x p) [] [kw] pos) (tBill C te) := by
  intro pins s σ H Q I h
  obtain ⟨nm, qn, N, bs, bm, hdct, sn, sub, ab, col, dd, k0, k1, k2, k3, k5, hC, hbm⟩ := T.cls
  obtain ⟨fI, cdaI, ccI, DB, fB, cdaB, ccB, qI, qB, parI, parB, fdI, fdB, p0, p1, p2, p3, p4, p5, p6, p7, p8, r0, r1, r2, r3, r4, SI, SB, OI, ln, ln2, hpI, hpB, bI, bI0, bIk, bB, iC, tI⟩ := T.ex
  refine wpAny_Call_Name_kw (ld_glob I hg T.gC ?_ hdb)
  have h2 : tCons te tNil σ H (qBill C Q) := h
  refine PySem.W.callWith_KW0 (h₀ := X.base) I.ok.mod.kin T.kC hall (thn (ha.run pos pins s σ H (qBill C Q) I h2) fun us s1 ⟨vs, H1, I1, rr, q0⟩ => ⟨I1.kIn, ?_⟩) hpl
  rw [hks]
  obtain ⟨v, rfl, q1⟩ := q0
  obtain ⟨u, rfl, ru⟩ := vals1 rr
  obtain ⟨hp, g, dr, tk, os⟩ := s1
  obtain ⟨mb, gb, eb⟩ := I1.mod.blt
  have B : Bs X.K X.mg mb X.base := ⟨I1.mod.kin, I1.mod.glob, gb, T.sup, (eb "super" (by decide)).trans (by decide +kernel), I1.mod.nolimit⟩
  have hn : H1 (hp.objs.size + 1) = none := I1.hok.fresh (Nat.le_succ _)
  have kk : ∀ b o, hp.get? b = some o → ((hp.push (PySem.W.kdv_tup [])).push (PySem.HandSPX.excO C hp.objs.size)).get? b = some o := fun b o e => Heap.get?_push_of_some _ (Heap.get?_push_of_some _ e)
  have hget : ((hp.push (PySem.W.kdv_tup [])).push (PySem.HandSPX.excO C hp.objs.size)).get? (hp.objs.size + 1) = some (PySem.HandSPX.excO C hp.objs.size) := by heap_get
  have x0 : X.base.get? (hp.objs.size + 1) = none := by
    cases e : X.base.get? (hp.objs.size + 1) with
    | none => rfl
    | some o =>
      have := Heap.lt_size (I1.bk _ _ e)
      exact absurd this (by show ¬ hp.objs.size + 1 < hp.objs.size; omega)
  have hsz2 : ((hp.push (PySem.W.kdv_tup [])).push (PySem.HandSPX.excO C hp.objs.size)).objs.size = hp.objs.size + 2 := by rw [Heap.size_push, Heap.size_push]
  show wpAny _ _ (call (.ref C) [] [(("value" : Str), u)]) _ _ _
  refine wpAny_call (kw_call F.excBase_ValueError (fun Y => PySem.HandSPX.refsVE_contains Y bm hbm) (I1.kIn _ _ hC) (PySem.W.looks_findIn I1.kIn iC) (fun self => PySem.W.bind_fn I1.kIn self tI) ?_)
  have room : (X.A.under (.builtin "type.__call__" ⟨[.ref C], [(("value" : Str), u)]⟩)).depth + 1 < recursionLimit := by
    have := (hr.make C [] [(("value" : Str), u)]).dp
    omega
  refine call_init B (fun b o e => kk b o (I1.bk b o e)) x0 SI SB T.ns OI ln ln2 room hget hpI hpB (bIk _ _) (bB _) (fun h' tk' t1 dx k5' sz dne hx5 hn5 => ?_)
  refine ⟨rfl, ?_⟩
  rw [hsz2] at sz
  obtain ⟨G, g1, g2⟩ := restrict h' fun b => decide (b ≠ hp.objs.size + 1)
  have gk : ∀ b, b ≠ hp.objs.size + 1 → G.get? b = h'.get? b := fun b hb => g1 b (decide_eq_true hb)
  have ge : G.get? (hp.objs.size + 1) = none := g2 _ (by simp)
  have keepG : ∀ b o, hp.get? b = some o → G.get? b = some o := fun b o e => by
    have hb : b ≠ hp.objs.size + 1 := Nat.ne_of_lt (Nat.lt_succ_of_lt (Heap.lt_size e))
    rw [gk b hb]
    exact k5' b o hb (kk b o e)
  have hd1 : H1 dx = none := I1.hok.fresh (Nat.le_trans (Nat.le_add_right hp.objs.size 2) sz)
  have J : Inv X pins σ (upd H1 dx (.xd [("value", v)])) ⟨G, g, dr, tk', os⟩ := I1.laid (t' := tk') (a := dx) (o := .xd [("value", v)]) (h' := G) keepG (Nat.le_trans (Nat.le_add_right hp.objs.size 2) sz)
    ⟨_, hn5.at fun o y => (gk dx dne).trans y, relO_put (fs := []) (mA := fun _ => none) ru fun g => True.intro⟩
  refine ⟨hp.objs.size + 1, _, _, ⟨G, g, dr, tk', os⟩, upd H1 dx (.xd [("value", v)]), .ref C, some dx, rfl, J, fun b o e => ?_, ge, hx5, ⟨rfl, rfl⟩, rfl, rfl, ?_, rfl, I1.bare, raises_own T.exC T.tyC, q1 dx hd1⟩
  · by_cases hb : b = hp.objs.size + 1
    · rw [hb, ge] at e
      cases e
    · exact (gk b hb).symm.trans e
  · rw [upd_ne dne.symm]
    exact hn

/-- InvalidX() and InvalidX(value=e) as values -/
theorem pe_bill0 {X : Cx} {x : Str} {C : Addr} {k : Nat} {p pos : Pos} (T : BillX X.prog X.K X.mg C x) (hr : Room (k + 1) X.A) (hg : Gl X x) (hdb : (x == ("__debug__" : Str)) = false := by decide) :
    PE X (.Call (.Name x p) [] [] pos) (tMade (fun _ H Q => ∀ d, H d = none → Q (.ref C) (some d) (upd H d (.xd [("value", .non)])))) := pe_made (pmk_bill0 T hr hg hdb)
end ExS
set_option Elab.async false
set_option linter.all false
set_option maxRecDepth 100000
set_option maxHeartbeats 4000000
/-! facts of exception classes, from the written part -/
namespace Cb
open PySem PySem.Spec PyProof.Rows L2 ExS
theorem kit_ref {K : PySem.W.Frag} {t : Value} {C : Addr} {b : Bool} (ne : (t == Value.ref C) = false) (hdct : PySem.W.hasDictIn K C = true) (ht : PySem.W.typeIn K (.ref C) = some (.type "type")) (h : PySem.W.subIn K t (.ref C) = some b) : PySem.W.kitOne K t (.ref C) = some b := by
  obtain ⟨cd, hc, _⟩ := PySem.W.any_some hdct
  have e2 : ((PySem.W.clsIn K C).isSome && PySem.W.typeIn K (.ref C) == some (.type "type")) = true := by rw [hc, ht] <;> rfl
  show (if (t == Value.ref C) = true then some true else (if ((PySem.W.clsIn K C).isSome && PySem.W.typeIn K (.ref C) == some (.type "type")) = true then PySem.W.subIn K t (.ref C) else none)) = some b
  rw [if_neg (by rw [ne]; decide), if_pos e2]
  exact h
theorem kit_self {K : PySem.W.Frag} {t : Value} (e : (t == t) = true) : PySem.W.kitOne K t t = some true := by
  show (if (t == t) = true then some true else PySem.W.kitCls K t t) = some true
  rw [if_pos e]
theorem bill_mk {P : Program} {K : PySem.W.Frag} {mg : Str → Option Value} {h : Heap} {x : Str} (X : K.In h) (G : h.Ns mainGlobals mg) {T C fI cdaI ccI DB fB cdaB ccB N : Addr} {nm q qI qB nI nB fiI fiB : Str} {bs bm sub : List Value} {hdct ab : Bool} {sn : List Str} {col : Option Bool} {dd odI anI odB anB cdI cdB clI clB : Option Addr}
    {k0 k1 k2 k3 k5 : Option Value} {kVI docI pmI ctI dVB kVB docB pmB ctB cI cB uI uB : Value} {oslI oslB csI csB slI slB : Array (Option Value)} {vI vB : Array Value} {tI tB : Tok} {cT : Value} {dT : Option Addr} {itsT : Array Value} {nT : Nat} {slT : Array (Option Value)} {cdC cdD : ClassData} {parI parB : Arguments} {p0 p1 p2 p3 p4 p5 p6 p7 p8 r0 r1 r2 r3 r4 : Pos}
    (a : PySem.W.nsIn K mainGlobals x = some (some (.ref C)))
    (cls : K.lookup C = some (excClassObj nm q C N bs bm hdct sn sub ab col dd k0 k1 k2 k3 k5 "ValueError.__new__")) (ve : PySem.HandSPX.refsVE bm = true)
    (iC : PySem.W.findIn K (.ref C) "__init__" = some (some (.ref fI))) (tf : PySem.W.typeIn K (.ref fI) = some (.type "function"))
    (lI : K.lookup fI = some ⟨.type "function", odI, .func (PySem.W.ksFn nI qI parI [bSup p0 p1 p2 p3 p4, bVal p5 p6 p7 p8] scI (.ref T) kVI docI pmI anI (.ref cdaI) ctI ccI), oslI⟩) (coI : PySem.W.codeIn K (.ref cdaI) qI = true)
    (lcI : K.lookup cdaI = some ⟨cI, cdI, .fields vI, csI⟩) (vI2 : vI[2]? = some (.str fiI tI)) (feI : ((P.main.file : Str) == fiI) = true) (ceI : K.lookup ccI = some ⟨uI, clI, .cell (some (.ref C)), slI⟩) (clC : PySem.W.clsIn K C = some cdC)
    (iB : PySem.W.ks_superIn K C C "__init__" = some (some (.ref fB)))
    (lB : K.lookup fB = some ⟨.type "function", odB, .func (PySem.W.ksFn nB qB parB [bSup r0 r1 r2 r3 r4] scB dVB kVB docB pmB anB (.ref cdaB) ctB ccB), oslB⟩) (coB : PySem.W.codeIn K (.ref cdaB) qB = true)
    (lcB : K.lookup cdaB = some ⟨cB, cdB, .fields vB, csB⟩) (vB2 : vB[2]? = some (.str fiB tB)) (feB : ((P.main.file : Str) == fiB) = true) (ceB : K.lookup ccB = some ⟨uB, clB, .cell (some (.ref DB)), slB⟩) (clD : PySem.W.clsIn K DB = some cdD)
    (tp : PySem.W.nsIn K cStatics "thirdparty.any" = some none) (sB : PySem.W.mroIn K C (.ref DB) = some true) (sC : PySem.W.mroIn K C (.ref C) = some true) (iV : PySem.W.ks_superIn K C DB "__init__" = some (some (.builtin "ValueError.__init__"))) (sV : PySem.W.subIn K (.ref C) (.type "ValueError") = some true)
    (fn : PySem.W.fnIn K fB = true) (mv : PySem.HandSPX.refsVE cdC.mro = true) (md : cdC.hasDict = true) (sa : PySem.W.findIn K (.ref C) "__setattr__" = some (some (.builtin "object.__setattr__"))) (nV : PySem.W.findIn K (.ref C) "value" = some none)
    (ln : Line p0 p1 p2 p3) (ln2 : Line r0 r1 r2 r3) (hI : (parI.posonlyargs ++ parI.args).head?.map (·.arg) = some ("self" : Str)) (hB : (parB.posonlyargs ++ parB.args).head?.map (·.arg) = some ("self" : Str))
    (lT : K.lookup T = some ⟨cT, dT, .seq itsT nT, slT⟩) (bI : ∀ (a : Addr) (v : Value), ∃ k, bindArgs (PySem.W.ksFn nI qI parI [bSup p0 p1 p2 p3 p4, bVal p5 p6 p7 p8] scI (.ref T) kVI docI pmI anI (.ref cdaI) ctI ccI) ⟨[.ref a, v], []⟩ = seqItems? (.ref T) >>= k ∧ k (some itsT) = pure [(("self" : Str), Value.ref a), (("value" : Str), v)])
    (bI0 : ∀ a : Addr, ∃ k, bindArgs (PySem.W.ksFn nI qI parI [bSup p0 p1 p2 p3 p4, bVal p5 p6 p7 p8] scI (.ref T) kVI docI pmI anI (.ref cdaI) ctI ccI) ⟨[.ref a], []⟩ = seqItems? (.ref T) >>= k ∧ k (some itsT) = pure [(("self" : Str), Value.ref a), (("value" : Str), Value.none)])
    (bIk : ∀ (a : Addr) (v : Value), ∃ k, bindArgs (PySem.W.ksFn nI qI parI [bSup p0 p1 p2 p3 p4, bVal p5 p6 p7 p8] scI (.ref T) kVI docI pmI anI (.ref cdaI) ctI ccI) ⟨[.ref a], [(("value" : Str), v)]⟩ = seqItems? (.ref T) >>= k ∧ k (some itsT) = pure [(("self" : Str), Value.ref a), (("value" : Str), v)])
    (bB : ∀ a : Addr, bindArgs (PySem.W.ksFn nB qB parB [bSup r0 r1 r2 r3 r4] scB dVB kVB docB pmB anB (.ref cdaB) ctB ccB) ⟨[.ref a], []⟩ = pure [(("self" : Str), Value.ref a)])
    (ns : NoSup P) (su : PySem.W.nsIn K mainGlobals "super" = some none) (kC : PySem.W.keepIn K (.ref C) = true) (exC : PySem.W.subIn K (.ref C) (.type "BaseException") = some true) (tyC : PySem.W.typeIn K (.ref C) = some (.type "type")) : BillX P K mg C x where
  ex := ⟨fI, cdaI, ccI, DB, fB, cdaB, ccB, qI, qB, parI, parB, _, _, p0, p1, p2, p3, p4, p5, p6, p7, p8, r0, r1, r2, r3, r4,
    ⟨⟨nI, .ref T, kVI, docI, pmI, ctI, odI, anI, oslI, rfl, lI⟩, coI, ⟨cI, cdI, vI, csI, fiI, tI, lcI, vI2, feI⟩, ⟨uI, clI, slI, ceI⟩, ⟨cdC, clC⟩⟩,
    ⟨⟨nB, dVB, kVB, docB, pmB, ctB, odB, anB, oslB, rfl, lB⟩, coB, ⟨cB, cdB, vB, csB, fiB, tB, lcB, vB2, feB⟩, ⟨uB, clB, slB, ceB⟩, ⟨cdD, clD⟩⟩,
    ⟨⟨⟨nm, q, N, bs, bm, hdct, sn, sub, ab, col, dd, k0, k1, k2, k3, k5, cls⟩, ⟨cdC, clC⟩, tp, sB, iV, sV⟩, iB, sC, fn, ⟨cdC, clC, mv, md⟩, sa, nV⟩, ln, ln2, hI, hB, fun a v s hs => (bI a v).elim fun k h => BindsTo.of_defaults rfl (hs _ _ lT) rfl h.1 h.2, fun a s hs => (bI0 a).elim fun k h => BindsTo.of_defaults rfl (hs _ _ lT) rfl h.1 h.2, fun a v s hs => (bIk a v).elim fun k h => BindsTo.of_defaults rfl (hs _ _ lT) rfl h.1 h.2, bB, iC, tf⟩
  cls := ⟨nm, q, N, bs, bm, hdct, sn, sub, ab, col, dd, k0, k1, k2, k3, k5, cls, ve⟩
  ns := ns
  sup := PySem.W.mg_none_of X G su
  gC := PySem.W.mg_of X G a
  kC := kC
  exC := exC
  tyC := tyC
end Cb
set_option Elab.async false
set_option linter.all false
set_option maxRecDepth 100000
set_option maxHeartbeats 4000000
namespace Cb
open PySem PySem.Spec PyProof.Rows L2
def topS (i : Nat) : Stmt := PySem.Challenge.pw_cellbills_k08_whole_tokens.main.body.getD i (.Pass ⟨0, 0, 0, 0⟩)
/-! ### words -/
abbrev s_is_letter : Stmt := topS 7
theorem sc_is_letter : FnScope ["sign"] ["sign"] (defScope s_is_letter) := ⟨rfl, rfl, rfl, by decide +kernel, rfl, by decide +kernel, by decide +kernel⟩
abbrev s_is_digit : Stmt := topS 8
theorem sc_is_digit : FnScope ["sign"] ["sign"] (defScope s_is_digit) := ⟨rfl, rfl, rfl, by decide +kernel, rfl, by decide +kernel, by decide +kernel⟩
abbrev s_is_reserved : Stmt := topS 9
theorem sc_is_reserved : FnScope ["text"] ["text"] (defScope s_is_reserved) := ⟨rfl, rfl, rfl, by decide +kernel, rfl, by decide +kernel, by decide +kernel⟩
abbrev s_is_word : Stmt := topS 10
theorem sc_is_word : FnScope ["value", "sign"] ["value"] (defScope s_is_word) := ⟨rfl, rfl, rfl, by decide +kernel, rfl, by decide +kernel, by decide +kernel⟩
def resL : List Str := ["calls", "catch", "drop", "else", "end", "fail", "flag", "fun", "go", "if", "in", "keep", "kind", "let", "match", "no", "not", "num", "raise", "take", "then", "to", "try", "use", "yes"]
def isRes (z : Str) : Bool := decide (z ∈ resL)
structure TWord (K : PySem.W.Frag) (w : World) (mg : Str → Option Value) : Prop where
  d_is_letter : Has K mg "is_letter" s_is_letter ["sign"]
  d_is_digit : Has K mg "is_digit" s_is_digit ["sign"]
  d_is_reserved : Has K mg "is_reserved" s_is_reserved ["text"]
  d_is_word : Has K mg "is_word" s_is_word ["value"]
  b_isinstance : mg "isinstance" = none
  b_str : mg "str" = none
  b_list : mg "list" = none
  b_len : mg "len" = none
  b_all : mg "all" = none
  g_MOST_SIGNS : ∃ t, mg "MOST_SIGNS" = some (.int 30 t)
  g_RESERVED : ∃ (d : Addr) (es : Array DictEntry) (n : Nat), mg "RESERVED" = some (.ref d) ∧ KDict K w d es n ∧ ∀ z : Str, ∃ r : Option Value, PySem.W.nsIn K d z = some r ∧ r.isSome = isRes z
section
variable {P : Program} {w : World} {K : PySem.W.Frag} {mg : Str → Option Value} {base : Heap}
def sp_is_letter : Sp := fun vs H Q _ => ∃ c : Nat, vs = [.str ⟨#[c]⟩] ∧ Q (.bl (lowC c)) H
theorem c_is_letter (T : TWord K w mg) : Says P w K mg base 1 "is_letter" ["sign"] sp_is_letter := by
  refine says T.d_is_letter sc_is_letter (fun vs H Q E h => ?_) (fun f cdv A outer s H vs Q E hr h => ?_)
  · obtain ⟨_, rfl, _⟩ := h; rfl
  · refine ⟨_, (pss_one (ps_ret (pe_chain op_le_str op_le_str pe_str (pv 0) pe_str))), ?_⟩
    obtain ⟨c, rfl, q⟩ := h
    unfold lowC at q
    refine ⟨_, rfl, _, _, rfl, rfl, _, rfl, ?_⟩
    refine ifNot (fun h => ?_) (fun h => ?_)
    · have h1 : 97 ≤ c := Nat.le_of_not_lt fun z => h ((lt1 97 c).mpr z)
      rw [decide_eq_true h1, Bool.true_and] at q
      refine ⟨_, _, rfl, rfl, ?_⟩
      by_cases h2 : c ≤ 122
      · rw [decide_eq_true h2] at q
        have e : decide (([122] : List Nat) < [c]) = false := decide_eq_false fun z => Nat.not_lt.mpr h2 ((lt1 c 122).mp z)
        show Q (.bl (!decide (([122] : List Nat) < [c]))) H
        rw [e]
        exact q
      · rw [decide_eq_false h2] at q
        have e : decide (([122] : List Nat) < [c]) = true := decide_eq_true ((lt1 c 122).mpr (Nat.lt_of_not_le h2))
        show Q (.bl (!decide (([122] : List Nat) < [c]))) H
        rw [e]
        exact q
    · have h1 : ¬ 97 ≤ c := Nat.not_le.mpr ((lt1 97 c).mp h)
      rw [decide_eq_false h1, Bool.false_and] at q
      exact q
def sp_is_digit : Sp := fun vs H Q _ => ∃ c : Nat, vs = [.str ⟨#[c]⟩] ∧ Q (.bl (digC c)) H
theorem c_is_digit (T : TWord K w mg) : Says P w K mg base 1 "is_digit" ["sign"] sp_is_digit := by
  refine says T.d_is_digit sc_is_digit (fun vs H Q E h => ?_) (fun f cdv A outer s H vs Q E hr h => ?_)
  · obtain ⟨_, rfl, _⟩ := h; rfl
  · refine ⟨_, (pss_one (ps_ret (pe_chain op_le_str op_le_str pe_str (pv 0) pe_str))), ?_⟩
    obtain ⟨c, rfl, q⟩ := h
    unfold digC at q
    refine ⟨_, rfl, _, _, rfl, rfl, _, rfl, ?_⟩
    refine ifNot (fun h => ?_) (fun h => ?_)
    · have h1 : 48 ≤ c := Nat.le_of_not_lt fun z => h ((lt1 48 c).mpr z)
      rw [decide_eq_true h1, Bool.true_and] at q
      refine ⟨_, _, rfl, rfl, ?_⟩
      by_cases h2 : c ≤ 57
      · rw [decide_eq_true h2] at q
        have e : decide (([57] : List Nat) < [c]) = false := decide_eq_false fun z => Nat.not_lt.mpr h2 ((lt1 c 57).mp z)
        show Q (.bl (!decide (([57] : List Nat) < [c]))) H
        rw [e]
        exact q
      · rw [decide_eq_false h2] at q
        have e : decide (([57] : List Nat) < [c]) = true := decide_eq_true ((lt1 c 57).mpr (Nat.lt_of_not_le h2))
        show Q (.bl (!decide (([57] : List Nat) < [c]))) H
        rw [e]
        exact q
    · have h1 : ¬ 48 ≤ c := Nat.not_le.mpr ((lt1 48 c).mp h)
      rw [decide_eq_false h1, Bool.false_and] at q
      exact q
def sp_is_reserved : Sp := fun vs H Q _ => ∃ z : Str, vs = [.str z] ∧ Q (.bl (isRes z)) H
theorem c_is_reserved (T : TWord K w mg) : Says P w K mg base 1 "is_reserved" ["text"] sp_is_reserved := by
  obtain ⟨d, es, n, g, D, all⟩ := T.g_RESERVED
  refine says T.d_is_reserved sc_is_reserved (fun vs H Q E h => ?_) (fun f cdv A outer s H vs Q E hr h => ?_)
  · obtain ⟨_, rfl, _⟩ := h; rfl
  · refine ⟨_, (pss_one (ps_ret (pe_cmpR (op_in_kd D) (pv 0) (pe_glob (v := .ref d) rfl g rfl) (by rfl)))), ?_⟩
    obtain ⟨z, rfl, q⟩ := h
    obtain ⟨r, e, er⟩ := all z
    rw [← er] at q
    exact ⟨_, rfl, _, _, rfl, rfl, e, q⟩
/-- a word, of its signs -/
def headLow (z : Str) : Bool := match z.cps[0]? with
  | some c => lowC c
  | none => false
def isWordS (z : Str) : Bool := (decide (1 ≤ z.length) && decide (z.length ≤ 30)) && (headLow z && !isRes z) && z.cps.toList.all fun c => lowC c || digC c
def isWord : PyData → Bool
  | .str z => isWordS z
  | _ => false
def sp_is_word : Sp := fun vs H Q _ => ∃ (v : V) (d : PyData), vs = [v] ∧ DT H v d ∧ OKd d ∧ ∀ H', Same H H' → Q (.bl (isWord d)) H'
theorem c_is_word (T : TWord K w mg) : Says P w K mg base 2 "is_word" ["value"] sp_is_word := by
  obtain ⟨tm, gm⟩ := T.g_MOST_SIGNS
  refine says T.d_is_word sc_is_word (fun vs H Q E h => ?_) (fun f cdv A outer s H vs Q E hr h => ?_)
  · obtain ⟨_, _, rfl, _⟩ := h; rfl
  · refine ⟨_, (pss_cons (ps_if (PW.pt (pw_or (pt_not (pt_val (pe_callB call_isi (by rfl) T.b_isinstance (by decide +kernel) (pa_cons (pv 0) (pa_cons (pe_bltn (v := .ty "str") (by rfl) T.b_str (by decide +kernel) rfl) pa_nil))))) (pw_or1 (pt_not (pt_chain op_le op_le pe_int (pe_callB call_len_str (by rfl) T.b_len (by decide +kernel) (pa_cons (pv 0) pa_nil)) (pe_glob (v := .int 30) rfl gm ⟨_, rfl⟩))))))
        (pss_one (ps_ret pe_bl))
        pss_nil)
      (pss_cons (ps_if (PW.pt (pw_or (pt_not (pt_val (pe_s (c_is_letter T) hr (pa_cons (pe_item_str (pv 0) pe_int (fun _ _ => rfl)) pa_nil)))) (pw_or1 (pt_val (pe_s (c_is_reserved T) hr (pa_cons (pv 0) pa_nil))))))
        (pss_one (ps_ret pe_bl))
        pss_nil)
      (pss_one (ps_ret (pe_callB (cr_all rfl) (by rfl) T.b_all (by decide +kernel) (pa_cons (pe_lc (own := [("sign", 1)]) (g := gName 1) (tt := tYes) rfl sc_is_word.nd (pi_str (pv 0)) (blkOk_by (N := ["value", "sign"]) (sc := defScope s_is_word) (own := [("sign", 1)]) (by decide +kernel)) (fun _ _ _ _ _ => pg_name (i := 1) sc_is_word.nd rfl (Or.inl rfl)) (fun _ _ _ _ _ => pts_nil) (fun _ _ _ _ _ => (pe_or (pe_s (c_is_letter T) hr (pa_cons (pv 1) pa_nil)) (pe_one (pe_s (c_is_digit T) hr (pa_cons (pv 1) pa_nil)))))) pa_nil)))))), ?_⟩
    obtain ⟨v, d, rfl, hd, ok, q⟩ := h
    refine ⟨_, rfl, _, _, _, _, _, rfl, .ty _, hd.ty, kit_ty (kit_s d), _, rfl, ?_⟩
    cases d with
    | str z =>
      cases hd
      have lz := ok.len_s
      have q1 := q
      show if (!true) = true then _ else _
      refine iteF ?_
      refine ⟨_, rfl, _, rfl, Nat.le_trans lz (by decide), ?_⟩
      refine ⟨_, _, rfl, rfl, _, rfl, ?_⟩
      have back : (decide (1 ≤ z.length) && decide (z.length ≤ 30)) = false → ∀ H', Same H H' → Q (.bl false) H' := fun e H' s' => by
        have q2 : Q (.bl (isWordS z)) H' := q H' s'
        unfold isWordS at q2
        rw [e] at q2
        simpa using q2
      refine ifB (fun h1 => ?_) (fun h1 => ?_)
      · have l1 : 1 ≤ z.length := by
          have := of_decide_eq_true h1
          omega
        refine ⟨_, _, rfl, rfl, _, rfl, ?_⟩
        refine ifB (fun h2 => ?_) (fun h2 => ?_)
        · have n2 : ¬ z.length ≤ 30 := fun y => by
            have : decide (((z.length : Nat) : Int) ≤ 30) = true := decide_eq_true (by omega)
            rw [this] at h2
            cases h2
          exact back (by rw [decide_eq_false n2, Bool.and_false]) _ (Same.refl _)
        · have l2 : z.length ≤ 30 := by
            cases z2 : decide (((z.length : Nat) : Int) ≤ 30) with
            | false => 
              rw [z2] at h2
              cases h2
            | true =>
              have := of_decide_eq_true z2
              omega
          have hc : ∃ c, z.cps[0]? = some c := ⟨z.cps[0]'l1, Array.getElem?_eq_getElem l1⟩
          obtain ⟨c, hc⟩ := hc
          refine ⟨_, rfl, _, _, c, rfl, rfl, by decide, by decide, by omega, hc, ?_⟩
          refine ⟨c, rfl, _, rfl, ?_⟩
          have hl : headLow z = lowC c := by
            unfold headLow
            rw [hc]
          have q3 : ∀ H', Same H H' → Q (.bl ((lowC c && !isRes z) && z.cps.toList.all fun c => lowC c || digC c)) H' := fun H' s' => by
            have q2 : Q (.bl (isWordS z)) H' := q H' s'
            unfold isWordS at q2
            rw [decide_eq_true l1, decide_eq_true l2, hl] at q2
            simpa using q2
          refine ifB (fun h3 => ?_) (fun h3 => ?_)
          · have e : lowC c = false := by simpa using h3
            have q4 := q3 H (Same.refl _)
            rw [e] at q4
            exact q4
          · have e : lowC c = true := by simpa using h3
            refine ⟨_, rfl, _, rfl, _, rfl, ?_⟩
            refine ifB (fun h4 => ?_) (fun h4 => ?_)
            · have q4 := q3 H (Same.refl _)
              rw [e, h4] at q4
              exact q4
            · refine ⟨_, rfl, _, rfl, fun D hD => lc_mapW (walk_str (z := z)) (ys := (z.cps.toList.map fun c => V.bl (lowC c || digC c))) (fun _ _ => trivial) (fun j H x H' y => y.1) hD (by simp) (by show z.cps.size < 1000; have : z.cps.size = z.length := rfl; omega) ?_ ?_⟩
              · rintro j x y H' Q' s1 ⟨_, c2, hc2, rfl⟩ hy q'
                have hy2 : y = .bl (lowC c2 || digC c2) := by
                  rw [List.getElem?_map, Array.getElem?_toList, hc2] at hy
                  exact (Option.some.inj hy).symm
                subst hy2
                refine ⟨_, rfl, c2, rfl, _, rfl, ?_⟩
                cases e2 : lowC c2 with
                | true =>
                  rw [e2] at q'
                  exact iteT (q' _ (Same.refl _))
                | false =>
                  rw [e2] at q'
                  exact iteF ⟨_, rfl, c2, rfl, q' _ (Same.refl _)⟩
              · intro H' s1 hd2
                refine ⟨_, (z.cps.toList.map fun c => lowC c || digC c), rfl, ?_, ?_⟩
                · rw [List.map_map]
                  exact SqL.of hd2
                · have q4 := q3 H' s1
                  rw [e, h4] at q4
                  rw [List.all_map]
                  simpa using q4
      · have n1 : ¬ 1 ≤ z.length := fun y => by
          have : decide ((1 : Int) ≤ ((z.length : Nat) : Int)) = true := decide_eq_true (by omega)
          rw [this] at h1
          cases h1
        refine ⟨_, rfl, ?_⟩
        exact back (by rw [decide_eq_false n1, Bool.false_and]) _ (Same.refl _)
    | none => exact iteT (q _ (Same.refl _))
    | bool _ => exact iteT (q _ (Same.refl _))
    | int _ => exact iteT (q _ (Same.refl _))
    | list _ => exact iteT (q _ (Same.refl _))
    | tuple _ => exact iteT (q _ (Same.refl _))
    | dict _ => exact iteT (q _ (Same.refl _))
end
end Cb
set_option Elab.async false
set_option linter.all false
set_option maxRecDepth 100000
set_option maxHeartbeats 4000000
namespace Cb
open PySem PySem.Spec PyProof.Rows L2
abbrev s_l_hash : Stmt := topS 21
theorem sc_l_hash : FnScope ["_law_seed", "_law_index", "_law_mixed"] ["_law_seed", "_law_index"] (defScope s_l_hash) := ⟨rfl, rfl, rfl, by decide +kernel, rfl, by decide +kernel, by decide +kernel⟩
abbrev s_l_random : Stmt := topS 22
theorem sc_l_random : FnScope ["_law_generator_here", "_law_bound", "_law_drawn", "_law_turn"] ["_law_generator_here", "_law_bound"] (defScope s_l_random) := ⟨rfl, rfl, rfl, by decide +kernel, rfl, by decide +kernel, by decide +kernel⟩
abbrev s_l_cell : Stmt := topS 23
theorem sc_l_cell : FnScope ["_law_script", "_law_index"] ["_law_script", "_law_index"] (defScope s_l_cell) := ⟨rfl, rfl, rfl, by decide +kernel, rfl, by decide +kernel, by decide +kernel⟩
abbrev s_l_generator : Stmt := topS 24
theorem sc_l_generator : FnScope ["_law_script", "_law_index", "_law_seed"] ["_law_script", "_law_index"] (defScope s_l_generator) := ⟨rfl, rfl, rfl, by decide +kernel, rfl, by decide +kernel, by decide +kernel⟩
structure TGen (K : PySem.W.Frag) (mg : Str → Option Value) : Prop where
  d_l_hash : Has K mg "_law_hash" s_l_hash ["_law_seed", "_law_index"]
  d_l_random : Has K mg "_law_random" s_l_random ["_law_generator_here", "_law_bound"]
  d_l_cell : Has K mg "_law_cell" s_l_cell ["_law_script", "_law_index"]
  d_l_generator : Has K mg "_law_generator" s_l_generator ["_law_script", "_law_index"]
  b_int : mg "int" = none
  b_range : mg "range" = none
  b_len : mg "len" = none
  b_sum : mg "sum" = none
  b_max : mg "max" = none
/-- a generator: three numbers -/
def gen (a s t : Int) : HO := .lst [.int a, .int s, .int t]
local macro_rules | `(tactic| walk_at "rd1") => `(tactic| first
  | with_reducible_and_instances refine ⟨_, rfl, ?_⟩
  | refine ⟨_, rfl, ?_⟩
  | refine ⟨_, _, rfl, rfl, ?_⟩
  | refine .inl ⟨_, rfl, ?_⟩
  | (refine ⟨by first | decide | omega | exact .inl (by decide) | exact .inr (by decide) | exact .inl (by omega) | exact .inr (by omega) | exact ⟨by decide, by decide⟩, ?_⟩))
local macro_rules | `(tactic| walk_at "rd") => `(tactic| repeat walk_at "rd1")
section
variable {P : Program} {w : World} {K : PySem.W.Frag} {mg : Str → Option Value} {base : Heap}
def sp_l_hash : Sp := fun vs H Q _ => ∃ s i : Int, vs = [.int s, .int i] ∧ 0 ≤ i ∧ i < 2 ^ 63 ∧ ∀ r : Int, Q (.int r) H
theorem mod_in {m b : Int} (h : 0 < b) : 0 ≤ m % b ∧ m % b < b := ⟨Int.emod_nonneg _ (by omega), Int.emod_lt_of_pos _ h⟩
theorem cut_first (ns : List Int) : cutV (ns.map V.int) none (some 1) = (ns.take 1).map V.int := by
  unfold cutV
  rw [show HT.sIx (ns.map V.int).length 0 none = 0 from HT.sIx_none _ _, show HT.sIx (ns.map V.int).length (ns.map V.int).length (some 1) = min 1 (ns.map V.int).length from HT.sIx_nat _ _ 1]
  cases ns with
  | nil => rfl
  | cons x r => simp
theorem c_l_hash (T : TGen K mg) : Says P w K mg base 1 "_law_hash" ["_law_seed", "_law_index"] sp_l_hash := by
  refine says T.d_l_hash sc_l_hash (fun vs H Q E h => ?_) (fun f cdv A outer s H vs Q E hr h => ?_)
  · obtain ⟨_, _, rfl, _⟩ := h; rfl
  · refine ⟨_, (pss_cons (ps_set (i := 2) sc_l_hash.nd rfl (.inl rfl) (pe_op op_mod (pe_callTy call_int1 (by rfl) T.b_int (by decide +kernel) (pa_cons (pe_op op_add (pe_op op_add (pe_op op_add (pe_op op_mul (pv 0) pe_int) (pe_op op_mul (pe_op op_mul pe_int (pv 1)) (pv 1))) (pe_op op_mul pe_int (pv 1))) pe_int) pa_nil)) pe_int))
      (pss_cons (ps_set (i := 2) sc_l_hash.nd rfl (.inl rfl) (pe_op op_mod (pe_callTy call_int1 (by rfl) T.b_int (by decide +kernel) (pa_cons (pe_op op_add (pe_op op_add (pe_op op_mul (pv 2) (pv 2)) (pe_op op_mul pe_int (pv 1))) pe_int) pa_nil)) pe_int))
      (pss_one (ps_ret (pe_op op_mod (pe_callTy call_int1 (by rfl) T.b_int (by decide +kernel) (pa_cons (pe_op op_mul (pv 2) pe_int) pa_nil)) pe_int))))), ?_⟩
    obtain ⟨s, i, rfl, h0, h1, q⟩ := h
    walk_at "rd"
    have hm := @mod_in (s * 1140671 + 27644437 * i * i + 131 * i + 19) 2147483629 (by decide)
    generalize (s * 1140671 + 27644437 * i * i + 131 * i + 19) % 2147483629 = m at hm ⊢
    walk_at "rd"
    exact q _

/-- a draw: some number below the bound; the generator goes on -/
@[irreducible] def sp_l_random : Sp := fun vs H Q _ => ∃ (p : Addr) (a s t b : Int), vs = [.ref p, .int b] ∧ H p = some (gen a s t) ∧ 0 < b ∧ b.natAbs < 2 ^ 210 ∧ 0 ≤ t ∧ t < 2 ^ 62 ∧
  ∀ r a' t' : Int, 0 ≤ r → r < b → t ≤ t' → t' ≤ t + 8 → Q (.int r) (upd H p (gen a' s t'))
theorem c_l_random (T : TGen K mg) : Says P w K mg base 2 "_law_random" ["_law_generator_here", "_law_bound"] sp_l_random := by
  refine says T.d_l_random sc_l_random (fun vs H Q E h => ?_) (fun f cdv A outer s H vs Q E hr h => ?_) <;> unfold sp_l_random at h
  · obtain ⟨_, _, _, _, _, rfl, _⟩ := h; rfl
  · refine ⟨_, (pss_cons (ps_if (pt_cmpR op_gt (pe_ix ix_list (pv 0) pe_int (fun _ _ => rfl)) pe_int (nomark _))
        (pss_cons (ps_set (i := 2) sc_l_random.nd rfl (.inl rfl) (pe_op op_mod (pe_callTy call_int1 (by rfl) T.b_int (by decide +kernel) (pa_cons (pe_ix ix_list (pv 0) pe_int (fun _ _ => rfl)) pa_nil)) (pv 1)))
        (pss_cons (ps_asg (pe_op op_fdivA (pe_ix ix_list (pv 0) pe_int (fun _ _ => rfl)) (pv 1)) (pg_sub (pv 0) pe_int set_list))
        (pss_one (ps_ret (pv 2)))))
        pss_nil)
      (pss_cons (ps_set (i := 2) sc_l_random.nd rfl (.inl rfl) pe_int)
      (pss_cons (ps_for PassesOwn.never rfl (pi_range1 (by rfl) T.b_range (pa_cons (pe_op op_add pe_int (pe_op op_fdiv (pe_bits (pv 1)) pe_int)) pa_nil)) (pg_name (i := 3) sc_l_random.nd rfl (.inl rfl))
        (pss_cons (ps_asg (pe_op op_add (pe_ix ix_list (pv 0) pe_int (fun _ _ => rfl)) pe_int) (pg_sub (pv 0) pe_int set_list))
        (pss_one (ps_set (i := 2) sc_l_random.nd rfl (.inl rfl) (pe_op op_add (pe_op op_mul (pv 2) pe_int) (pe_s (c_l_hash T) hr (pa_cons (pe_ix ix_list (pv 0) pe_int (fun _ _ => rfl)) (pa_cons (pe_ix ix_list (pv 0) pe_int (fun _ _ => rfl)) pa_nil))))))))
      (pss_one (ps_ret (pe_op op_mod (pe_callTy call_int1 (by rfl) T.b_int (by decide +kernel) (pa_cons (pv 2) pa_nil)) (pv 1))))))), ?_⟩
    obtain ⟨p, a, s, t, b, rfl, hp, b0, b1, t0, t1, q⟩ := h
    have bl : Builtin.Int.intBits b ≤ 210 := PyProof.Rows.intBits_le b1
    refine ⟨_, rfl, _, _, _, _, rfl, rfl, SqL.of hp, rfl, _, _, rfl, rfl, _, rfl, ite2 (fun _ => ?_) (fun _ => ?_)⟩
    · refine ⟨_, rfl, _, _, _, _, rfl, rfl, SqL.of hp, rfl, .inl ⟨_, rfl, ?_⟩⟩
      refine ⟨_, rfl, _, _, rfl, rfl, b0, ?_⟩
      refine ⟨_, rfl, _, _, _, _, rfl, rfl, SqL.of hp, rfl, _, rfl, _, _, rfl, rfl, ⟨by omega, Nat.lt_of_lt_of_le (PySem.Flt.log2_lt_of (by decide) b1) (by decide)⟩, ?_⟩
      refine ⟨_, rfl, _, _, _, _, rfl, rfl, hp, rfl, ?_⟩
      refine ⟨_, rfl, ?_⟩
      exact q _ _ t (mod_in b0).1 (mod_in b0).2 (by omega) (by omega)
    · refine ⟨_, rfl, _, rfl, _, _, rfl, rfl, ⟨by decide, by decide⟩, _, _, rfl, rfl, _, rfl, ?_, ?_, ?_⟩
      · show -(2 ^ 62) ≤ 1 + ((Builtin.Int.intBits b : Nat) : Int) / 30
        omega
      · show 1 + ((Builtin.Int.intBits b : Nat) : Int) / 30 < 2 ^ 62
        omega
      · refine for_range (lo := 0) (fun i σ H' => ∃ (d t' : Int) (v : Option V), σ = [some (.ref p), some (.int b), some (.int d), v] ∧ t' = t + i ∧ H' = upd H p (gen a s t')) ⟨0, t, none, rfl, by omega, (upd_self hp).symm⟩ ?_ ?_
        · rintro i σ H' hi ⟨d, t', v, rfl, rfl, rfl⟩
          have hi8 : i < (1 + ((Builtin.Int.intBits b : Nat) : Int) / 30).toNat := hi
          refine ⟨_, rfl, _, _, _, _, rfl, rfl, SqL.of upd_same, rfl, _, _, rfl, rfl, ?_⟩
          refine ⟨_, rfl, _, _, _, _, rfl, rfl, upd_same, rfl, ?_⟩
          rw [upd_upd]
          refine ⟨_, rfl, _, _, rfl, rfl, .inr (by decide), ?_⟩
          refine ⟨_, rfl, _, _, _, _, rfl, rfl, SqL.of upd_same, rfl, _, rfl, _, _, _, _, rfl, rfl, SqL.of upd_same, rfl, ?_⟩
          refine ⟨_, _, rfl, by omega, by omega, fun r => ?_⟩
          refine ⟨_, _, rfl, rfl, ?_⟩
          exact ⟨_, t + i + 1, _, rfl, by omega, rfl⟩
        · rintro σ H' ⟨d, t', v, rfl, rfl, rfl⟩
          refine ⟨_, rfl, .inl ⟨_, rfl, ?_⟩⟩
          refine ⟨_, rfl, _, _, rfl, rfl, b0, ?_⟩
          have hn : ((1 + ((Builtin.Int.intBits b : Nat) : Int) / 30).toNat : Int) ≤ 8 := by omega
          exact q _ a _ (mod_in b0).1 (mod_in b0).2 (Int.le_add_of_nonneg_right (Int.natCast_nonneg _)) (Int.add_le_add_left hn t)
def sp_l_cell (K : PySem.W.Frag) : Sp := fun vs H Q _ => ∃ (p : Addr) (ns : List Int) (i : Int), vs = [.ref p, .int i] ∧ SqL K H p (ns.map V.int) ∧ 0 ≤ i ∧ ∀ (r : Int) (H' : Hp), Same H H' → Q (.int r) H'
theorem c_l_cell (T : TGen K mg) : Says P w K mg base 1 "_law_cell" ["_law_script", "_law_index"] (sp_l_cell K) := by
  refine says T.d_l_cell sc_l_cell (fun vs H Q E h => ?_) (fun f cdv A outer s H vs Q E hr h => ?_)
  · obtain ⟨_, _, _, rfl, _⟩ := h; rfl
  · refine ⟨_, (pss_cons (ps_if (pt_cmpR op_lt (pv 1) (pe_callB call_len_seq (by rfl) T.b_len (by decide +kernel) (pa_cons (pv 0) pa_nil)) (nomark _))
        (pss_one (ps_ret (pe_ix ix_list (pv 0) (pv 1) (fun _ _ => rfl))))
        pss_nil)
      (pss_one (ps_ret (pe_op op_mod (pe_callB (cr_sum rfl) (by rfl) T.b_sum (by decide +kernel) (pa_cons (pe_slice sl_list (pv 0) po_none (po_some pe_int)) pa_nil)) pe_int)))), ?_⟩
    obtain ⟨p, ns, i, rfl, hp, i0, q⟩ := h
    refine ⟨_, rfl, _, rfl, _, _, rfl, .inl hp, _, _, rfl, rfl, _, rfl, ite2 (fun lt => ?_) (fun _ => ?_)⟩
    · have lt2 : i < ((ns.map V.int).length : Int) := of_decide_eq_true lt
      rw [List.length_map] at lt2
      have e : atI (ns.map V.int) i = some (.int (ns[i.toNat]'(by omega))) := by
        have z := atI_nat (xs := ns.map V.int) (j := i.toNat) (v := .int (ns[i.toNat]'(by omega))) (by rw [List.getElem?_map, List.getElem?_eq_getElem (by omega)]; rfl)
        rwa [Int.toNat_of_nonneg i0] at z
      refine ⟨_, rfl, _, rfl, _, _, _, _, rfl, rfl, hp, e, ?_⟩
      exact q _ _ (Same.refl _)
    · refine ⟨_, rfl, 1, rfl, _, _, rfl, hp, fun l hl => ?_⟩
      refine ⟨_, (ns.take 1), rfl, ?_, ?_⟩
      · rw [← cut_first]
        exact SqL.of upd_same
      · refine ⟨_, _, rfl, rfl, (show (0 : Int) < 1000003 by decide), ?_⟩
        exact q _ _ (same_new hl)
/-- a new generator -/
def sp_l_generator (K : PySem.W.Frag) : Sp := fun vs H Q _ => ∃ (p : Addr) (ns : List Int) (i : Int), vs = [.ref p, .int i] ∧ SqL K H p (ns.map V.int) ∧ 0 ≤ i ∧ i < 1000 ∧
  ∀ (g : Addr) (a s : Int) (H' : Hp), H g = none → Same H H' → H' g = some (gen a s (1000 * i)) → Q (.ref g) H'
theorem c_l_generator (T : TGen K mg) : Says P w K mg base 2 "_law_generator" ["_law_script", "_law_index"] (sp_l_generator K) := by
  refine says T.d_l_generator sc_l_generator (fun vs H Q E h => ?_) (fun f cdv A outer s H vs Q E hr h => ?_)
  · obtain ⟨_, _, _, rfl, _⟩ := h; rfl
  · refine ⟨_, (pss_cons (ps_set (i := 2) sc_l_generator.nd rfl (.inl rfl) (pe_s (c_l_cell T) hr (pa_cons (pv 0) (pa_cons (pv 1) pa_nil))))
      (pss_one (ps_ret (pe_lst (pa_cons (pe_op op_mod (pe_callTy call_int1 (by rfl) T.b_int (by decide +kernel) (pa_cons (pe_callB (call_max2 rfl) (by rfl) T.b_max (by decide +kernel) (pa_cons (pe_op op_sub (pv 2) (pe_op op_powA pe_int pe_int)) (pa_cons pe_int pa_nil))) pa_nil)) (pe_op op_powA (pe_op op_powA pe_int pe_int) pe_int)) (pa_cons (pe_op op_mod (pe_callTy call_int1 (by rfl) T.b_int (by decide +kernel) (pa_cons (pv 2) pa_nil)) pe_int) (pa_cons (pe_op op_mul pe_int (pv 1)) pa_nil))))))), ?_⟩
    obtain ⟨p, ns, i, rfl, hp, i0, i1, q⟩ := h
    refine ⟨_, rfl, _, rfl, _, _, _, rfl, hp, i0, fun r H1 s1 => ?_⟩
    refine ⟨_, rfl, _, _, rfl, rfl, ⟨by decide, by decide +kernel⟩, _, _, rfl, rfl, ?_⟩
    refine ⟨_, _, rfl, .inl ⟨_, rfl, ?_⟩⟩
    refine ⟨_, _, rfl, rfl, ⟨by decide, by decide +kernel⟩, _, _, rfl, rfl, ⟨by decide, by decide +kernel⟩, ?_⟩
    refine ⟨_, _, rfl, rfl, (show (0 : Int) < ((10 ^ Int.toNat 60) ^ Int.toNat 10) by decide +kernel), ?_⟩
    refine ⟨_, rfl, .inl ⟨_, rfl, _, _, rfl, rfl, (show (0 : Int) < 2147483647 by decide), ?_⟩⟩
    refine ⟨_, rfl, _, _, rfl, rfl, .inl (by decide), ?_⟩
    refine ⟨(show 3 ≤ sizeLine by decide), fun g hg => ?_⟩
    exact q g _ _ _ (s1.free hg) (s1.trans (same_new hg)) upd_same
end
end Cb
set_option Elab.async false
set_option linter.all false
set_option maxRecDepth 100000
set_option maxHeartbeats 4000000
namespace Cb
open PySem PySem.Spec PyProof.Rows L2
/-! ### how a text is cut into tokens -/
abbrev Tok := Str × Str × Nat × Nat
def cz (z : Str) : List Nat := z.cps.toList
def zc (cs : List Nat) : Str := ⟨cs.toArray⟩
theorem cz_zc (cs : List Nat) : cz (zc cs) = cs := rfl
theorem zc_cz (z : Str) : zc (cz z) = z := rfl
theorem cz_len (z : Str) : (cz z).length = z.length := Array.length_toList
theorem cz_app (a b : Str) : cz (a ++ b) = cz a ++ cz b := by
  show (a.cps ++ b.cps).toList = _
  rw [Array.toList_append]
  rfl
def rowC (letters : Bool) (c : Nat) : Bool := digC c || (letters && lowC c)
def tokLen : List Nat → Nat
  | [] => 0
  | d :: cs => if rowC (lowC d) d = true then ((d :: cs).takeWhile (rowC (lowC d))).length else 1
def noteLen (cs : List Nat) : Nat := (cs.takeWhile fun c => decide (c ≠ 10)).length
def SIGNS : Str := "()[]{},;:=|&<+-*/~"
def signsL : List Nat := cz SIGNS
def hd0 (z : Str) : Nat := (cz z).headD 0
/-- token in SIGNS -/
def inSg (z : Str) : Bool := !(Builtin.Str.occurrences SIGNS z 0 SIGNS.length 1).isEmpty
def sortOf (z : Str) : Str :=
  if isWordS z = true then "word" else if (isRes z || inSg z) = true then "sign" else if (!digC (hd0 z) || decide (z.length > 19)) = true then "wrong"
  else if (decide (z = "0") || !decide (hd0 z = 48)) = true then "number" else "wrong"
def blankC (c : Nat) : Bool := decide (c = 32) || decide (c = 9) || decide (c = 10)
inductive Lex : List Nat → Nat → Nat → List Tok → Prop
  | fin {l c : Nat} : Lex [] l c [("end", "", l, c)]
  | nl {cs : List Nat} {l c : Nat} {ts : List Tok} : Lex cs (l + 1) 1 ts → Lex (10 :: cs) l c ts
  | bl {d : Nat} {cs : List Nat} {l c : Nat} {ts : List Tok} : d = 32 ∨ d = 9 → Lex cs l (c + 1) ts → Lex (d :: cs) l c ts
  | note {cs : List Nat} {l c : Nat} {ts : List Tok} : Lex ((35 :: cs).drop (noteLen (35 :: cs))) l (c + noteLen (35 :: cs)) ts → Lex (35 :: cs) l c ts
  | wrong {d : Nat} {cs : List Nat} {l c : Nat} : blankC d = false → d ≠ 35 → tokLen (d :: cs) ≤ 900 → sortOf (zc ((d :: cs).take (tokLen (d :: cs)))) = "wrong" → Lex (d :: cs) l c [("wrong", zc ((d :: cs).take (tokLen (d :: cs))), l, c)]
  | tok {d : Nat} {cs : List Nat} {l c : Nat} {ts : List Tok} : blankC d = false → d ≠ 35 → tokLen (d :: cs) ≤ 900 → sortOf (zc ((d :: cs).take (tokLen (d :: cs)))) ≠ "wrong" → Lex ((d :: cs).drop (tokLen (d :: cs))) l (c + tokLen (d :: cs)) ts →
      Lex (d :: cs) l c ((sortOf (zc ((d :: cs).take (tokLen (d :: cs)))), zc ((d :: cs).take (tokLen (d :: cs))), l, c) :: ts)
/-- by reckoning -/
def lexF : Nat → List Nat → Nat → Nat → Option (List Tok)
  | _, [], l, c => some [("end", "", l, c)]
  | 0, _ :: _, _, _ => none
  | f + 1, d :: cs, l, c =>
    if d = 10 then lexF f cs (l + 1) 1
    else if d = 32 ∨ d = 9 then lexF f cs l (c + 1)
    else if d = 35 then lexF f ((35 :: cs).drop (noteLen (35 :: cs))) l (c + noteLen (35 :: cs))
    else if tokLen (d :: cs) ≤ 900 then
      if sortOf (zc ((d :: cs).take (tokLen (d :: cs)))) = "wrong" then some [("wrong", zc ((d :: cs).take (tokLen (d :: cs))), l, c)]
      else (lexF f ((d :: cs).drop (tokLen (d :: cs))) l (c + tokLen (d :: cs))).map fun ts => (sortOf (zc ((d :: cs).take (tokLen (d :: cs)))), zc ((d :: cs).take (tokLen (d :: cs))), l, c) :: ts
    else none
theorem lexF_lex : ∀ (f : Nat) (cs : List Nat) (l c : Nat) (ts : List Tok), lexF f cs l c = some ts → Lex cs l c ts
  | f, [], l, c, ts, h => by
    unfold lexF at h
    obtain rfl := Option.some.inj h
    exact .fin
  | 0, _ :: _, l, c, ts, h => by
    unfold lexF at h
    cases h
  | f + 1, d :: cs, l, c, ts, h => by
    unfold lexF at h
    by_cases h1 : d = 10
    · rw [if_pos h1] at h
      subst h1
      exact .nl (lexF_lex f cs _ _ ts h)
    rw [if_neg h1] at h
    by_cases h2 : d = 32 ∨ d = 9
    · rw [if_pos h2] at h
      exact .bl h2 (lexF_lex f cs _ _ ts h)
    rw [if_neg h2] at h
    by_cases h3 : d = 35
    · rw [if_pos h3] at h
      subst h3
      exact .note (lexF_lex f _ _ _ ts h)
    rw [if_neg h3] at h
    have hb : blankC d = false := by
      have h4 : ¬ d = 32 := fun e => h2 (.inl e)
      have h5 : ¬ d = 9 := fun e => h2 (.inr e)
      simp [blankC, h1, h4, h5]
    by_cases h4 : tokLen (d :: cs) ≤ 900
    · rw [if_pos h4] at h
      by_cases h5 : sortOf (zc ((d :: cs).take (tokLen (d :: cs)))) = "wrong"
      · rw [if_pos h5] at h
        obtain rfl := Option.some.inj h
        exact .wrong hb h3 h4 h5
      · rw [if_neg h5] at h
        cases e : lexF f ((d :: cs).drop (tokLen (d :: cs))) l (c + tokLen (d :: cs)) with
        | none => rw [e] at h; cases h
        | some ts' =>
          rw [e] at h
          obtain rfl := Option.some.inj h
          exact .tok hb h3 h4 h5 (lexF_lex f _ _ _ ts' e)
    · rw [if_neg h4] at h
      cases h
/-! ### a text within SIGNS -/
theorem inSg_one {c : Nat} : inSg (zc [c]) = decide (c ∈ signsL) := by
  have e : SIGNS.length = SIGNS.length := rfl
  unfold inSg
  rcases StrLaws.occ_head_from SIGNS (zc [c]) 0 1 (Nat.le_refl 1) with ⟨h0, hn⟩ | ⟨i, r, h0, hlo, hk, hn⟩
  · rw [h0]
    have : ¬ c ∈ signsL := by
      intro m
      obtain ⟨k, hk, e⟩ := List.mem_iff_getElem.mp m
      refine hn k (Nat.zero_le _) ⟨?_, ?_⟩
      · have l1 : (zc [c]).length = 1 := rfl
        have l2 : SIGNS.length = signsL.length := (cz_len SIGNS).symm
        omega
      · rw [StrLaws.subAt_eq]
        show ((signsL.drop k).take 1 == [c]) = true
        rw [List.drop_eq_getElem_cons hk, e]
        simp
    rw [decide_eq_false this]
    rfl
  · rw [h0]
    have h2 := hk.2
    rw [StrLaws.subAt_eq] at h2
    have h3 : (signsL.drop i).take 1 = [c] := eq_of_beq h2
    have m : c ∈ signsL := by
      have : c ∈ (signsL.drop i).take 1 := by rw [h3]; simp
      exact List.mem_of_mem_drop (List.mem_of_mem_take this)
    rw [decide_eq_true m]
    rfl
theorem inSg_no {d : Nat} {cs : List Nat} (h : d ∉ signsL) : inSg (zc (d :: cs)) = false := by
  unfold inSg
  rcases StrLaws.occ_head_from SIGNS (zc (d :: cs)) 0 1 (Nat.le_refl 1) with ⟨h0, hn⟩ | ⟨i, r, h0, hlo, hk, hn⟩
  · rw [h0]
    rfl
  · exfalso
    have h2 := hk.2
    rw [StrLaws.subAt_eq] at h2
    have h3 : (signsL.drop i).take (zc (d :: cs)).length = d :: cs := eq_of_beq h2
    have : d ∈ (signsL.drop i).take (zc (d :: cs)).length := by rw [h3]; simp
    exact h (List.mem_of_mem_drop (List.mem_of_mem_take this))
end Cb
set_option Elab.async false
set_option linter.all false
set_option maxRecDepth 100000
set_option maxHeartbeats 4000000
namespace Cb
open PySem PySem.Spec PyProof.Rows L2
/-! ### pieces -/
def letd (c : Nat) : Bool := digC c || lowC c
theorem row_letd (c : Nat) : rowC (lowC c) c = letd c := by
  unfold rowC letd
  cases lowC c <;> rfl
theorem row_sub {b : Bool} {c : Nat} (h : letd c = false) : rowC b c = false := by
  unfold letd at h
  obtain ⟨h1, h2⟩ := Bool.or_eq_false_iff.mp h
  unfold rowC
  rw [h1, h2, Bool.and_false]
  rfl
/-- a token by itself -/
structure TokOk (p : Str) : Prop where
  ex : ∃ d cs, cz p = d :: cs ∧ blankC d = false ∧ d ≠ 35 ∧ ((letd d = false ∧ cs = []) ∨ (letd d = true ∧ ∀ c ∈ d :: cs, rowC (lowC d) c = true))
  len : p.length ≤ 40
  okc : okc p
def lastLet (cs : List Nat) : Prop := ∀ c r, cs = c :: r → letd c = false
theorem tokLen_of {p : Str} (h : TokOk p) {rest : List Nat} (hr : letd (hd0 p) = true → lastLet rest) : tokLen (cz p ++ rest) = p.length ∧ ∃ d cs, cz p = d :: cs ∧ blankC d = false ∧ d ≠ 35 := by
  obtain ⟨⟨d, cs, e, h1, h2, h3⟩, _⟩ := h
  refine ⟨?_, d, cs, e, h1, h2⟩
  have eh : hd0 p = d := by unfold hd0; rw [e]; rfl
  rw [eh] at hr
  rw [e, ← cz_len p, e]
  show (if rowC (lowC d) d = true then ((d :: (cs ++ rest)).takeWhile (rowC (lowC d))).length else 1) = _
  rw [row_letd]
  rcases h3 with ⟨h3, rfl⟩ | ⟨h3, h4⟩
  · rw [h3, if_neg (by decide)]
    rfl
  · rw [h3, if_pos rfl]
    have hl := hr h3
    have e2 : (d :: (cs ++ rest)).takeWhile (rowC (lowC d)) = d :: cs := by
      show ((d :: cs) ++ rest).takeWhile (rowC (lowC d)) = d :: cs
      rw [List.takeWhile_append_of_pos h4]
      have : rest.takeWhile (rowC (lowC d)) = [] := by
        cases rest with
        | nil => rfl
        | cons c r => rw [List.takeWhile_cons, row_sub (hl c r rfl), if_neg (by decide)]
      rw [this, List.append_nil]
    rw [e2]
theorem lex_tok {p : Str} (h : TokOk p) {rest : List Nat} {l c : Nat} {ts : List Tok} (hr : letd (hd0 p) = true → lastLet rest) (hs : sortOf p ≠ "wrong") (k : Lex rest l (c + p.length) ts) : Lex (cz p ++ rest) l c ((sortOf p, p, l, c) :: ts) := by
  obtain ⟨e1, d, cs, e, h1, h2⟩ := tokLen_of h hr
  have el := cz_len p
  have et : (cz p ++ rest).take (tokLen (cz p ++ rest)) = cz p := by rw [e1, ← el, List.take_left]
  have ed : (cz p ++ rest).drop (tokLen (cz p ++ rest)) = rest := by rw [e1, ← el, List.drop_left]
  have hl := h.len
  have key : ∀ xs : List Nat, xs = cz p ++ rest → Lex xs l c ((sortOf p, p, l, c) :: ts) := by
    intro xs ex
    have exs : xs = d :: (cs ++ rest) := by rw [ex, e]; rfl
    have t := Lex.tok (d := d) (cs := cs ++ rest) (l := l) (c := c) (ts := ts) h1 h2
    rw [← exs, ex, e1, ← e1, et, ed, e1, zc_cz] at t
    rw [ex]
    exact t (by omega) hs k
  exact key _ rfl
theorem lex_wrong {p : Str} (h : TokOk p) {rest : List Nat} {l c : Nat} (hr : letd (hd0 p) = true → lastLet rest) (hs : sortOf p = "wrong") : Lex (cz p ++ rest) l c [("wrong", p, l, c)] := by
  obtain ⟨e1, d, cs, e, h1, h2⟩ := tokLen_of h hr
  have el := cz_len p
  have et : (cz p ++ rest).take (tokLen (cz p ++ rest)) = cz p := by rw [e1, ← el, List.take_left]
  have hl := h.len
  have key : ∀ xs : List Nat, xs = cz p ++ rest → Lex xs l c [("wrong", p, l, c)] := by
    intro xs ex
    have exs : xs = d :: (cs ++ rest) := by rw [ex, e]; rfl
    have t := Lex.wrong (d := d) (cs := cs ++ rest) (l := l) (c := c) h1 h2
    rw [← exs, ex, et, e1, zc_cz] at t
    rw [ex]
    exact t (by omega) hs
  exact key _ rfl
/-! ### blanks -/
/-- where one stands behind a text -/
def adv : List Nat → Nat × Nat → Nat × Nat
  | [], p => p
  | d :: cs, p => adv cs (if d = 10 then (p.1 + 1, 1) else (p.1, p.2 + 1))
theorem adv_app : ∀ (a b : List Nat) (p : Nat × Nat), adv (a ++ b) p = adv b (adv a p)
  | [], _, _ => rfl
  | _ :: a, b, p => adv_app a b _
/-- blanks and whole notes -/
inductive Bl : List Nat → Prop
  | nil : Bl []
  | sp {d : Nat} {b : List Nat} : blankC d = true → Bl b → Bl (d :: b)
  | note {m b : List Nat} : (∀ c ∈ m, c ≠ 10) → Bl (10 :: b) → Bl (35 :: (m ++ 10 :: b))
theorem adv_plain : ∀ (m : List Nat) (p : Nat × Nat), (∀ c ∈ m, c ≠ 10) → adv m p = (p.1, p.2 + m.length)
  | [], p, _ => rfl
  | c :: m, p, h => by
    unfold adv
    rw [if_neg (h c (List.mem_cons_self ..)), adv_plain m _ fun d hd => h d (List.mem_cons_of_mem _ hd)]
    simp only [List.length_cons]
    congr 1
    omega
theorem noteLen_of {m rest : List Nat} (h : ∀ c ∈ m, c ≠ 10) : noteLen (35 :: (m ++ 10 :: rest)) = m.length + 1 := by
  unfold noteLen
  rw [List.takeWhile_cons, if_pos (by decide), List.takeWhile_append_of_pos (fun c hc => decide_eq_true (h c hc)), List.takeWhile_cons, if_neg (by decide), List.append_nil, List.length_cons]
theorem lex_bl {b : List Nat} (h : Bl b) : ∀ {rest : List Nat} {l c : Nat} {ts : List Tok}, Lex rest (adv b (l, c)).1 (adv b (l, c)).2 ts → Lex (b ++ rest) l c ts := by
  induction h with
  | nil => exact fun k => k
  | @sp d b hd _ ih =>
    intro rest l c ts k
    unfold adv at k
    by_cases e : d = 10
    · rw [if_pos e] at k
      subst e
      exact .nl (ih k)
    · rw [if_neg e] at k
      refine .bl ?_ (ih k)
      unfold blankC at hd
      simp only [Bool.or_eq_true, decide_eq_true_eq] at hd
      rcases hd with (hd | hd) | hd
      · exact .inl hd
      · exact .inr hd
      · exact absurd hd e
  | @note m b hm _ ih =>
    intro rest l c ts k
    have e1 : adv (35 :: (m ++ 10 :: b)) (l, c) = adv (10 :: b) (l, c + (m.length + 1)) := by
      show adv (m ++ 10 :: b) (l, c + 1) = _
      rw [adv_app, adv_plain m _ hm]
      congr 2
      omega
    rw [e1] at k
    have e2 : (35 :: (m ++ 10 :: b)) ++ rest = 35 :: (m ++ 10 :: (b ++ rest)) := by simp
    rw [e2]
    refine .note ?_
    rw [noteLen_of hm]
    have e3 : (35 :: (m ++ 10 :: (b ++ rest))).drop (m.length + 1) = (10 :: b) ++ rest := by
      rw [List.drop_succ_cons, List.drop_left]
      rfl
    rw [e3]
    exact ih k
/-- a note at the text's end -/
theorem lex_end {m : List Nat} (h : ∀ c ∈ m, c ≠ 10) {l c : Nat} : Lex (35 :: m) l c [("end", "", l, c + (m.length + 1))] := by
  refine .note ?_
  have e : noteLen (35 :: m) = m.length + 1 := by
    unfold noteLen
    rw [List.takeWhile_cons, if_pos (by decide)]
    have : m.takeWhile (fun c => decide (c ≠ 10)) = m := by
      have := List.takeWhile_append_of_pos (p := fun c => decide (c ≠ 10)) (l₁ := m) (l₂ := []) fun c hc => decide_eq_true (h c hc)
      simpa using this
    rw [this, List.length_cons]
  rw [e, show (35 :: m).drop (m.length + 1) = [] by rw [List.drop_succ_cons, List.drop_length]]
  exact .fin
/-! ### a text laid out -/
def placed (ps : List Str) (pls : List (Nat × Nat)) : List Tok := (ps.zip pls).map fun x => (sortOf x.1, x.1, x.2.1, x.2.2)
def lastHd (ps : List Str) : Bool := match ps.getLast? with
  | some p => letd (hd0 p)
  | none => false
/-- pieces behind one another, from the left -/
inductive Laid : List Str → List Nat → List (Nat × Nat) → Nat → Nat → Prop
  | nil : Laid [] [] [] 1 1
  | snoc {ps : List Str} {z : List Nat} {pls : List (Nat × Nat)} {l c : Nat} {b : List Nat} {p : Str} : Laid ps z pls l c → Bl b → ((lastHd ps && letd (hd0 p)) = true → b ≠ []) → TokOk p →
      Laid (ps ++ [p]) (z ++ b ++ cz p) (pls ++ [adv b (l, c)]) (adv b (l, c)).1 ((adv b (l, c)).2 + p.length)
theorem Laid.len {ps : List Str} {z : List Nat} {pls : List (Nat × Nat)} {l c : Nat} (h : Laid ps z pls l c) : pls.length = ps.length := by
  induction h with
  | nil => rfl
  | snoc _ _ _ _ ih => rw [List.length_append, List.length_append, ih]; rfl
theorem bl_head {b : List Nat} (h : Bl b) (n : b ≠ []) (rest : List Nat) : lastLet (b ++ rest) := by
  intro c r e
  cases h with
  | nil => exact absurd rfl n
  | @sp d b hd _ =>
    obtain rfl : d = c := by simpa using (List.cons.inj e).1
    unfold blankC at hd
    simp only [Bool.or_eq_true, decide_eq_true_eq] at hd
    rcases hd with (rfl | rfl) | rfl <;> rfl
  | note _ _ =>
    obtain rfl : 35 = c := by simpa using (List.cons.inj e).1
    rfl
theorem lastLet_app {p : Str} (h : TokOk p) (hl : letd (hd0 p) = false) (rest : List Nat) : lastLet (cz p ++ rest) := by
  intro c r e
  obtain ⟨⟨d, cs, e2, _⟩, _⟩ := h
  unfold hd0 at hl
  rw [e2] at hl e
  obtain rfl : d = c := by simpa using (List.cons.inj e).1
  exact hl
theorem placed_snoc {ps : List Str} {pls : List (Nat × Nat)} (h : pls.length = ps.length) (p : Str) (q : Nat × Nat) : placed (ps ++ [p]) (pls ++ [q]) = placed ps pls ++ [(sortOf p, p, q.1, q.2)] := by
  unfold placed
  rw [List.zip_append h.symm, List.map_append]
  rfl
theorem Laid.lex {ps : List Str} {z : List Nat} {pls : List (Nat × Nat)} {l c : Nat} (h : Laid ps z pls l c) : (∀ p ∈ ps, sortOf p ≠ "wrong") → ∀ {rest : List Nat} {ts : List Tok}, (lastHd ps = true → lastLet rest) → Lex rest l c ts → Lex (z ++ rest) 1 1 (placed ps pls ++ ts) := by
  induction h with
  | nil => exact fun _ _ _ _ k => k
  | @snoc ps z pls l c b p h1 hb hn ht ih =>
    intro hs rest ts hr k
    rw [placed_snoc h1.len, List.append_assoc, List.append_assoc, List.append_assoc]
    have hlp : lastHd (ps ++ [p]) = letd (hd0 p) := by unfold lastHd; rw [List.getLast?_append]; rfl
    rw [hlp] at hr
    refine ih (fun q hq => hs q (List.mem_append_left _ hq)) ?_ (lex_bl hb (lex_tok ht hr (hs p (by simp)) k))
    intro hh
    by_cases eb : b = []
    · subst eb
      have : letd (hd0 p) = false := by
        cases e : letd (hd0 p) with
        | false => rfl
        | true => exact absurd rfl (hn (by rw [hh, e]; rfl))
      exact lastLet_app ht this _
    · exact bl_head hb eb _
/-- up to one that is no token -/
theorem Laid.lexw {ps : List Str} {z : List Nat} {pls : List (Nat × Nat)} {l c : Nat} (h : Laid ps z pls l c) : ∀ {rest : List Nat}, (lastHd ps = true → lastLet rest) → ∀ {A B : List Str} {w : Str}, ps = A ++ w :: B → (∀ p ∈ A, sortOf p ≠ "wrong") → sortOf w = "wrong" →
    ∃ q, pls[A.length]? = some q ∧ Lex (z ++ rest) 1 1 (placed A (pls.take A.length) ++ [(("wrong" : Str), w, q.1, q.2)]) := by
  induction h with
  | nil => intro rest _ A B w e; cases A <;> cases e
  | @snoc ps z pls l c b p h1 hb hn ht ih =>
    intro rest hr A B w e hA hw
    have hlp : lastHd (ps ++ [p]) = letd (hd0 p) := by unfold lastHd; rw [List.getLast?_append]; rfl
    rw [hlp] at hr
    have hh : lastHd ps = true → lastLet (b ++ (cz p ++ rest)) := by
      intro hh
      by_cases eb : b = []
      · subst eb
        have : letd (hd0 p) = false := by
          cases e : letd (hd0 p) with
          | false => rfl
          | true => exact absurd rfl (hn (by rw [hh, e]; rfl))
        exact lastLet_app ht this _
      · exact bl_head hb eb _
    rw [List.append_assoc, List.append_assoc]
    rcases List.eq_nil_or_concat B with rfl | ⟨B', x, rfl⟩
    · obtain ⟨rfl, rfl⟩ : ps = A ∧ p = w := by
        have := List.append_inj' e rfl
        exact ⟨this.1, by simpa using this.2⟩
      have lp := h1.len
      refine ⟨adv b (l, c), ?_, ?_⟩
      · rw [← lp, List.getElem?_append_right (Nat.le_refl _), Nat.sub_self]
        rfl
      · rw [← lp, List.take_left]
        exact h1.lex hA hh (lex_bl hb (lex_wrong ht hr hw))
    · rw [List.concat_eq_append] at e
      have e2 : ps ++ [p] = (A ++ w :: B') ++ [x] := by rw [e]; simp
      obtain ⟨rfl, _⟩ : ps = A ++ w :: B' ∧ [p] = [x] := List.append_inj' e2 rfl
      obtain ⟨q, hq, k⟩ := ih hh rfl hA hw
      have hlt : A.length < pls.length := (List.getElem?_eq_some_iff.mp hq).1
      refine ⟨q, by rw [List.getElem?_append_left hlt]; exact hq, ?_⟩
      rw [List.take_append_of_le_length (show A.length ≤ pls.length by omega)]
      exact k
end Cb
set_option Elab.async false
set_option linter.all false
set_option maxRecDepth 100000
set_option maxHeartbeats 4000000
namespace Cb
open PySem PySem.Spec PyProof.Rows L2
abbrev s_is_row_sign : Stmt := topS 14
theorem sc_is_row_sign : FnScope ["sign", "letters"] ["sign", "letters"] (defScope s_is_row_sign) := ⟨rfl, rfl, rfl, by decide +kernel, rfl, by decide +kernel, by decide +kernel⟩
abbrev s_token_end : Stmt := topS 15
theorem sc_token_end : FnScope ["text", "at", "letters"] ["text", "at"] (defScope s_token_end) := ⟨rfl, rfl, rfl, by decide +kernel, rfl, by decide +kernel, by decide +kernel⟩
abbrev s_note_end : Stmt := topS 16
theorem sc_note_end : FnScope ["text", "at", "end"] ["text", "at"] (defScope s_note_end) := ⟨rfl, rfl, rfl, by decide +kernel, rfl, by decide +kernel, by decide +kernel⟩
abbrev s_sort_of : Stmt := topS 17
theorem sc_sort_of : FnScope ["token"] ["token"] (defScope s_sort_of) := ⟨rfl, rfl, rfl, by decide +kernel, rfl, by decide +kernel, by decide +kernel⟩
abbrev s_scanned : Stmt := topS 18
theorem sc_scanned : FnScope ["text", "found", "at", "line", "start", "sign", "end", "sort"] ["text"] (defScope s_scanned) := ⟨rfl, rfl, rfl, by decide +kernel, rfl, by decide +kernel, by decide +kernel⟩
structure TLex (K : PySem.W.Frag) (w : World) (mg : Str → Option Value) : Prop where
  tw : TWord K w mg
  d_is_row_sign : Has K mg "is_row_sign" s_is_row_sign ["sign", "letters"]
  d_token_end : Has K mg "token_end" s_token_end ["text", "at"]
  d_note_end : Has K mg "note_end" s_note_end ["text", "at"]
  d_sort_of : Has K mg "sort_of" s_sort_of ["token"]
  d_scanned : Has K mg "scanned" s_scanned ["text"]
  g_SIGNS : ∃ t, mg "SIGNS" = some (.str SIGNS t)
  g_MOST_DIGITS : ∃ t, mg "MOST_DIGITS" = some (.int 19 t)
/-! ### rows of signs -/
theorem tw_lt {α : Type} {p : α → Bool} : ∀ {l : List α} {j : Nat}, j < (l.takeWhile p).length → ∃ x, l[j]? = some x ∧ p x = true
  | [], j, h => by simp at h
  | x :: l, j, h => by
    rw [List.takeWhile_cons] at h
    cases e : p x with
    | false => rw [e] at h; simp at h
    | true =>
      rw [e, if_pos rfl] at h
      cases j with
      | zero => exact ⟨x, rfl, e⟩
      | succ j =>
        obtain ⟨y, h1, h2⟩ := tw_lt (l := l) (j := j) (by simpa using h)
        exact ⟨y, by rw [List.getElem?_cons_succ]; exact h1, h2⟩
theorem tw_end {α : Type} {p : α → Bool} : ∀ {l : List α} {x : α}, l[(l.takeWhile p).length]? = some x → p x = false
  | [], x, h => by simp at h
  | y :: l, x, h => by
    rw [List.takeWhile_cons] at h
    cases e : p y with
    | false =>
      rw [e, if_neg (by decide)] at h
      simp at h
      rw [← h]
      exact e
    | true =>
      rw [e, if_pos rfl, List.length_cons, List.getElem?_cons_succ] at h
      exact tw_end h
theorem tw_le {α : Type} {p : α → Bool} {l : List α} : (l.takeWhile p).length ≤ l.length := (List.takeWhile_prefix p).length_le
theorem at_cz {z : Str} {i : Nat} : z.cps[i]? = (cz z)[i]? := by
  unfold cz
  rw [Array.getElem?_toList]
theorem drop_get {z : Str} {i j : Nat} : ((cz z).drop i)[j]? = z.cps[i + j]? := by
  rw [List.getElem?_drop, ← at_cz]
theorem small5 {n : Nat} (h : n ≤ 5000) : n ≤ sizeLine := Nat.le_trans h (by decide)
/-- a number that falls: up to top from slot j -/
def muI (j : Nat) (top : Int) (σ : L2.St) : Nat := match σ[j]? with
  | some (some (.int a)) => (top - a).toNat
  | _ => 0
section
variable {P : Program} {w : World} {K : PySem.W.Frag} {mg : Str → Option Value} {base : Heap}
def sp_row : Sp := fun vs H Q _ => ∃ (c : Nat) (b : Bool), vs = [.str ⟨#[c]⟩, .bl b] ∧ Q (.bl (rowC b c)) H
theorem c_is_row_sign (T : TLex K w mg) : Says P w K mg base 2 "is_row_sign" ["sign", "letters"] sp_row := by
  refine says T.d_is_row_sign sc_is_row_sign (fun vs H Q E h => ?_) (fun f cdv A outer s H vs Q E hr h => ?_)
  · obtain ⟨_, _, rfl, _⟩ := h; rfl
  refine ⟨_, (pss_one (ps_ret (pe_or (pe_s (c_is_digit T.tw) hr (pa_cons (pv 0) pa_nil)) (pe_one (pe_and (pv 1) (pe_one (pe_s (c_is_letter T.tw) hr (pa_cons (pv 0) pa_nil)))))))), ?_⟩
  obtain ⟨c, b, rfl, q⟩ := h
  unfold rowC at q
  refine ⟨_, rfl, c, rfl, _, rfl, ?_⟩
  cases e : digC c with
  | true =>
    rw [e] at q
    exact iteT q
  | false =>
    rw [e] at q
    refine iteF ?_
    refine ⟨_, rfl, _, rfl, ?_⟩
    cases b with
    | false => exact iteF q
    | true => exact iteT ⟨_, rfl, c, rfl, q⟩
def sp_token_end : Sp := fun vs H Q _ => ∃ (z : Str) (i : Nat), vs = [.str z, .int (i : Int)] ∧ i < z.length ∧ z.length ≤ 5000 ∧ Q (.int ((i + tokLen ((cz z).drop i) : Nat) : Int)) H
theorem c_token_end (T : TLex K w mg) : Says P w K mg base 3 "token_end" ["text", "at"] sp_token_end := by
  refine says T.d_token_end sc_token_end (fun vs H Q E h => ?_) (fun f cdv A outer s H vs Q E hr h => ?_)
  · obtain ⟨_, _, rfl, _⟩ := h; rfl
  refine ⟨_, (pss_cons (ps_set (i := 2) sc_token_end.nd rfl (.inl rfl) (pe_s (c_is_letter T.tw) hr (pa_cons (pe_item_str (pv 0) (pv 1) (fun _ _ => rfl)) pa_nil)))
    (pss_cons (ps_if (pt_not (pt_val (pe_s (c_is_row_sign T) hr (pa_cons (pe_item_str (pv 0) (pv 1) (fun _ _ => rfl)) (pa_cons (pv 2) pa_nil)))))
        (pss_one (ps_ret (pe_op op_add (pv 1) pe_int)))
        pss_nil)
    (pss_cons (ps_while PassesOwn.never (PW.pt (pw_and (pt_cmpR op_lt (pv 1) (pe_callB call_len_str (by rfl) T.tw.b_len (by decide +kernel) (pa_cons (pv 0) pa_nil)) (nomark _)) (pw_and1 (pt_val (pe_s (c_is_row_sign T) hr (pa_cons (pe_item_str (pv 0) (pv 1) (fun _ _ => rfl)) (pa_cons (pv 2) pa_nil)))))))
        (pss_one (ps_aug (i := 1) sc_token_end.nd rfl (.inl rfl) pe_int ip_add)))
    (pss_one (ps_ret (pv 1)))))), ?_⟩
  obtain ⟨z, i, rfl, hi, hz, q⟩ := h
  have hz' := small5 hz
  have hd : (cz z).drop i = z.cps[i] :: (cz z).drop (i + 1) := by
    have : i < (cz z).length := by rw [cz_len]; exact hi
    rw [List.drop_eq_getElem_cons this]
    rfl
  have gi : z.cps[((i : Int)).toNat]? = some z.cps[i] := by rw [Int.toNat_natCast]; exact Array.getElem?_eq_getElem hi
  generalize z.cps[i] = d at hd gi
  rw [hd] at q
  have eL : rowC (lowC d) d = true → ((cz z).drop i).takeWhile (rowC (lowC d)) = (d :: (cz z).drop (i + 1)).takeWhile (rowC (lowC d)) := fun _ => by rw [hd]
  refine ⟨_, rfl, _, rfl, _, _, _, rfl, rfl, by omega, by omega, by omega, gi, d, rfl, ?_⟩
  refine ⟨_, rfl, _, rfl, _, _, _, rfl, rfl, by omega, by omega, by omega, gi, _, rfl, d, lowC d, rfl, _, rfl, ?_⟩
  cases er : rowC (lowC d) d with
  | false =>
    refine iteT ⟨_, rfl, _, _, rfl, rfl, ?_⟩
    have e : tokLen (d :: (cz z).drop (i + 1)) = 1 := by
      show (if rowC (lowC d) d = true then _ else _) = _
      rw [er, if_neg (by decide)]
    rw [e] at q
    exact q
  | true =>
    refine iteF ?_
    have e : tokLen (d :: (cz z).drop (i + 1)) = (((cz z).drop i).takeWhile (rowC (lowC d))).length := by
      show (if rowC (lowC d) d = true then _ else _) = _
      rw [er, if_pos rfl, hd]
    rw [e] at q
    have lt : ∀ {j : Nat}, j < (((cz z).drop i).takeWhile (rowC (lowC d))).length → ∃ x, ((cz z).drop i)[j]? = some x ∧ rowC (lowC d) x = true := fun h => tw_lt h
    have le := tw_le (p := rowC (lowC d)) (l := (cz z).drop i)
    have en : ∀ {x : Nat}, ((cz z).drop i)[(((cz z).drop i).takeWhile (rowC (lowC d))).length]? = some x → rowC (lowC d) x = false := fun h => tw_end h
    have ll : ((cz z).drop i).length = z.length - i := by rw [List.length_drop, cz_len]
    generalize (((cz z).drop i).takeWhile (rowC (lowC d))).length = m at q lt le en
    dsimp only [tSeq]
    refine while_by (fun σ H' => H' = H ∧ ∃ k : Nat, k ≤ m ∧ σ = [some (.str z), some (.int ((i + k : Nat) : Int)), some (.bl (lowC d))]) (fun σ H' => muI 1 ((i + m : Nat) : Int) σ) ⟨rfl, 0, Nat.zero_le _, rfl⟩ ?_ ?_
    · rintro σ H1 ⟨rfl, k, hk, rfl⟩
      refine ⟨_, rfl, _, rfl, _, rfl, hz', _, _, rfl, rfl, _, rfl, ?_⟩
      by_cases h1 : i + k < z.length
      · rw [decide_eq_true (show ((i + k : Nat) : Int) < ((z.length : Nat) : Int) by omega)]
        refine iteT ?_
        have gk : z.cps[((i + k : Nat) : Int).toNat]? = some z.cps[i + k] := by rw [Int.toNat_natCast]; exact Array.getElem?_eq_getElem h1
        have gd : ((cz z).drop i)[k]? = some z.cps[i + k] := by rw [drop_get]; exact Array.getElem?_eq_getElem h1
        refine ⟨_, rfl, _, rfl, _, _, _, rfl, rfl, by omega, by omega, by omega, gk, _, rfl, _, _, rfl, _, rfl, ?_⟩
        by_cases h2 : k < m
        · obtain ⟨x, hx, px⟩ := lt h2
          rw [gd] at hx
          obtain rfl := Option.some.inj hx
          rw [px]
          refine iteT ?_
          refine ⟨_, rfl, _, _, rfl, rfl, ?_⟩
          refine ⟨⟨rfl, k + 1, h2, ?_⟩, ?_⟩
          · show [some (V.str z), some (V.int (((i + k : Nat) : Int) + 1)), some (V.bl (lowC d))] = _
            rw [show ((i + k : Nat) : Int) + 1 = ((i + (k + 1) : Nat) : Int) by omega]
          · show (((i + m : Nat) : Int) - (((i + k : Nat) : Int) + 1)).toNat < (((i + m : Nat) : Int) - ((i + k : Nat) : Int)).toNat
            omega
        · obtain rfl : k = m := by omega
          rw [en gd]
          exact iteF ⟨_, rfl, q⟩
      · rw [decide_eq_false (show ¬ ((i + k : Nat) : Int) < ((z.length : Nat) : Int) by omega)]
        refine iteF ?_
        obtain rfl : k = m := by omega
        exact ⟨_, rfl, q⟩
    · rintro σ H1 Q1 Q2 mm ⟨v, e1, v2, e2, z2, e3, l2, i2, j2, e4, e5, b, eb, h⟩
      refine ⟨v, e1, v2, e2, z2, e3, l2, i2, j2, e4, e5, b, eb, ?_⟩
      cases b with
      | false => exact mm _ _ h
      | true =>
        obtain ⟨v3, f1, v4, f2, z3, i3, c3, f3, f4, f5, f6, f7, f8, v5, f9, c4, b4, f10, c5, f11, h⟩ := h
        exact ⟨v3, f1, v4, f2, z3, i3, c3, f3, f4, f5, f6, f7, f8, v5, f9, c4, b4, f10, c5, f11, mm _ _ h⟩
def sp_note_end : Sp := fun vs H Q _ => ∃ (z : Str) (i : Nat), vs = [.str z, .int (i : Int)] ∧ i ≤ z.length ∧ z.length ≤ 5000 ∧ Q (.int ((i + noteLen ((cz z).drop i) : Nat) : Int)) H
theorem find_note {z : Str} {i : Nat} (hi : i ≤ z.length) : (Txt.find3 z ⟨#[10]⟩ (i : Int) = -1 ∧ i + noteLen ((cz z).drop i) = z.length) ∨ (Txt.find3 z ⟨#[10]⟩ (i : Int) = ((i + noteLen ((cz z).drop i) : Nat) : Int)) := by
  have ef : PySem.fromIndex z.length (i : Int) = i := by
    unfold PySem.fromIndex
    rw [if_neg (by omega)]
    omega
  have lt : ∀ {j : Nat}, j < noteLen ((cz z).drop i) → ∃ x, ((cz z).drop i)[j]? = some x ∧ decide (x ≠ 10) = true := fun h => tw_lt (p := fun c => decide (c ≠ 10)) h
  have en : ∀ {x : Nat}, ((cz z).drop i)[noteLen ((cz z).drop i)]? = some x → decide (x ≠ 10) = false := fun {x} h => tw_end (p := fun c => decide (c ≠ 10)) (l := (cz z).drop i) (x := x) h
  have le : noteLen ((cz z).drop i) ≤ ((cz z).drop i).length := tw_le
  have ll : ((cz z).drop i).length = z.length - i := by rw [List.length_drop, cz_len]
  generalize noteLen ((cz z).drop i) = m at lt en le ⊢
  have gd : ∀ k, k < z.length → z.cps.getD k 0 = z.cps[k]?.getD 0 := fun k _ => by simp
  rcases StrLaws.find3_spec z 10 (i : Int) with ⟨h1, h2⟩ | ⟨k, h1, h2, h3, h4, h5⟩
  · rw [ef] at h2
    refine .inl ⟨h1, ?_⟩
    refine Classical.byContradiction fun ne => ?_
    have hlt : i + m < z.length := by omega
    have g : z.cps[i + m]? = some z.cps[i + m] := Array.getElem?_eq_getElem hlt
    have e10 := en (by rw [drop_get]; exact g)
    have := h2 (i + m) (by omega) hlt
    rw [gd _ hlt, g] at this
    simp at e10 this
    exact this e10
  · rw [ef] at h2 h5
    right
    rw [h1]
    have g : z.cps[k]? = some z.cps[k] := Array.getElem?_eq_getElem h3
    rw [gd _ h3, g] at h4
    simp only [Option.getD_some] at h4
    have c1 : ¬ k < i + m := by
      intro c
      obtain ⟨x, hx, px⟩ := lt (j := k - i) (by omega)
      rw [drop_get, show i + (k - i) = k by omega, g] at hx
      obtain rfl := Option.some.inj hx
      rw [h4] at px
      simp at px
    have c2 : ¬ i + m < k := by
      intro c
      have hlt : i + m < z.length := by omega
      have g2 : z.cps[i + m]? = some z.cps[i + m] := Array.getElem?_eq_getElem hlt
      have e10 := en (by rw [drop_get]; exact g2)
      have := h5 (i + m) (by omega) c
      rw [gd _ hlt, g2] at this
      simp at e10 this
      exact this e10
    omega
theorem c_note_end (T : TLex K w mg) : Says P w K mg base 1 "note_end" ["text", "at"] sp_note_end := by
  refine says T.d_note_end sc_note_end (fun vs H Q E h => ?_) (fun f cdv A outer s H vs Q E hr h => ?_)
  · obtain ⟨_, _, rfl, _⟩ := h; rfl
  refine ⟨_, (pss_cons (ps_set (i := 2) sc_note_end.nd rfl (.inl rfl) (pe_bm PySem.F.plainAttrs_str PySem.F.slot_str_find PySem.F.type_str_find mt_find3 (pv 0) (pa_cons pe_str (pa_cons (pv 1) pa_nil))))
    (pss_one (ps_ret (pe_ifExp (pt_cmpR op_lt (pv 2) pe_int (nomark _)) (pe_callB call_len_str (by rfl) T.tw.b_len (by decide +kernel) (pa_cons (pv 0) pa_nil)) (pv 2))))), ?_⟩
  obtain ⟨z, i, rfl, hi, hz, q⟩ := h
  have hz' := small5 hz
  refine ⟨_, rfl, rfl, _, rfl, z, ⟨#[10]⟩, (i : Int), rfl, rfl, ?_⟩
  rcases find_note hi with ⟨e, e2⟩ | e
  · rw [e]
    refine ⟨_, rfl, _, _, rfl, rfl, _, rfl, ?_⟩
    rw [decide_eq_true (by decide)]
    refine iteT ⟨_, rfl, _, rfl, hz', ?_⟩
    rw [← e2]
    exact q
  · rw [e]
    refine ⟨_, rfl, _, _, rfl, rfl, _, rfl, ?_⟩
    rw [decide_eq_false (by omega)]
    exact iteF ⟨_, rfl, q⟩
end
end Cb
set_option Elab.async false
set_option linter.all false
set_option maxRecDepth 100000
set_option maxHeartbeats 4000000
namespace Cb
open PySem PySem.Spec PyProof.Rows L2
theorem nin1 {a b : Addr} (h : a ≠ b) : a ∉ [b] := by simp [h]
theorem same_keep {S : List Addr} {H H' : Hp} (s : Same H H') : Keep S H H' := fun b o _ e => s b o e
theorem DTs.snoc {H : Hp} : ∀ {xs : List V} {ds : List PyData} {x : V} {d : PyData}, DTs H xs ds → DT H x d → DTs H (xs ++ [x]) (ds ++ [d])
  | _, [], _, _, h, a => by cases h; exact .cons a .nil
  | _, e :: ds, _, _, h, a => by
    cases h with
    | cons b r => exact .cons b (DTs.snoc (ds := ds) r a)
theorem small1000' {n : Nat} (h : n ≤ 5000) : n < sizeLine := Nat.lt_of_le_of_lt h (by decide)
def tokD (t : Tok) : PyData := .tuple [.str t.1, .str t.2.1, .int (t.2.2.1 : Nat), .int (t.2.2.2 : Nat)]
theorem Lex.inv {d : Nat} {cs : List Nat} {l c : Nat} {ts : List Tok} (h : Lex (d :: cs) l c ts) :
    (d = 10 ∧ Lex cs (l + 1) 1 ts) ∨ ((d = 32 ∨ d = 9) ∧ Lex cs l (c + 1) ts) ∨ (d = 35 ∧ Lex ((d :: cs).drop (noteLen (d :: cs))) l (c + noteLen (d :: cs)) ts) ∨
    (blankC d = false ∧ d ≠ 35 ∧ tokLen (d :: cs) ≤ 900 ∧ ((sortOf (zc ((d :: cs).take (tokLen (d :: cs)))) = "wrong" ∧ ts = [(("wrong" : Str), zc ((d :: cs).take (tokLen (d :: cs))), l, c)]) ∨
      (sortOf (zc ((d :: cs).take (tokLen (d :: cs)))) ≠ "wrong" ∧ ∃ ts', ts = (sortOf (zc ((d :: cs).take (tokLen (d :: cs)))), zc ((d :: cs).take (tokLen (d :: cs))), l, c) :: ts' ∧ Lex ((d :: cs).drop (tokLen (d :: cs))) l (c + tokLen (d :: cs)) ts'))) := by
  cases h with
  | nl k => exact .inl ⟨rfl, k⟩
  | bl e k => exact .inr (.inl ⟨e, k⟩)
  | note k => exact .inr (.inr (.inl ⟨rfl, k⟩))
  | wrong a b c' e => exact .inr (.inr (.inr ⟨a, b, c', .inl ⟨e, rfl⟩⟩))
  | tok a b c' e k => exact .inr (.inr (.inr ⟨a, b, c', .inr ⟨e, _, rfl, k⟩⟩))
theorem cut_mid {z : Str} {k n : Nat} (h : k + n ≤ z.length) : cutS z (some (k : Int)) (some ((k + n : Nat) : Int)) = zc (((cz z).drop k).take n) := by
  unfold cutS
  rw [show HT.sIx z.length 0 (some (k : Int)) = min k z.length from HT.sIx_nat _ _ k, show HT.sIx z.length z.length (some ((k + n : Nat) : Int)) = min (k + n) z.length from HT.sIx_nat _ _ (k + n), Nat.min_eq_left (show k ≤ z.length by omega), Nat.min_eq_left h, show k + n - k = n by omega]
  rfl
theorem okc_cut {z : Str} (h : okc z) (k n : Nat) : okc (zc (((cz z).drop k).take n)) := fun c hc => h c (List.mem_of_mem_drop (List.mem_of_mem_take hc))
theorem zc_len (cs : List Nat) : (zc cs).length = cs.length := rfl
theorem hd_get {z : Str} {d : Nat} (h : z.cps[0]? = some d) : hd0 z = d := by
  unfold hd0
  rw [at_cz] at h
  cases e : cz z with
  | nil => rw [e] at h; cases h
  | cons x r => rw [e] at h; simpa using h
section
variable {P : Program} {w : World} {K : PySem.W.Frag} {mg : Str → Option Value} {base : Heap}
def sp_sort_of : Sp := fun vs H Q _ => ∃ z : Str, vs = [.str z] ∧ okc z ∧ 1 ≤ z.length ∧ z.length ≤ 900 ∧ ∀ H', Same H H' → Q (.str (sortOf z)) H'
theorem c_sort_of (T : TLex K w mg) : Says P w K mg base 3 "sort_of" ["token"] sp_sort_of := by
  obtain ⟨t1, g1⟩ := T.g_SIGNS
  obtain ⟨t2, g2⟩ := T.g_MOST_DIGITS
  refine says T.d_sort_of sc_sort_of (fun vs H Q E h => ?_) (fun f cdv A outer s H vs Q E hr h => ?_)
  · obtain ⟨_, rfl, _⟩ := h; rfl
  refine ⟨_, (pss_cons (ps_if (pt_val (pe_s (c_is_word T.tw) hr (pa_cons (pv 0) pa_nil)))
        (pss_one (ps_ret pe_str))
        pss_nil)
    (pss_cons (ps_if (PW.pt (pw_or (pt_val (pe_s (c_is_reserved T.tw) hr (pa_cons (pv 0) pa_nil))) (pw_or1 (pt_cmpR op_in_str (pv 0) (pe_glob (v := .str SIGNS) rfl g1 ⟨_, rfl⟩) (by rfl)))))
        (pss_one (ps_ret pe_str))
        pss_nil)
    (pss_cons (ps_if (PW.pt (pw_or (pt_not (pt_val (pe_s (c_is_digit T.tw) hr (pa_cons (pe_item_str (pv 0) pe_int (fun _ _ => rfl)) pa_nil)))) (pw_or1 (pt_cmpR op_gt (pe_callB call_len_str (by rfl) T.tw.b_len (by decide +kernel) (pa_cons (pv 0) pa_nil)) (pe_glob (v := .int 19) rfl g2 ⟨_, rfl⟩) (nomark _)))))
        (pss_one (ps_ret pe_str))
        pss_nil)
    (pss_one (ps_ret (pe_ifExp (PW.pt (pw_or (pt_cmpR op_eq (pv 0) pe_str (nomark _)) (pw_or1 (pt_cmpR op_ne (pe_item_str (pv 0) pe_int (fun _ _ => rfl)) pe_str (nomark _))))) pe_str pe_str)))))), ?_⟩
  obtain ⟨z, rfl, ok, l1, l9, q⟩ := h
  have g0 : z.cps[(0 : Int).toNat]? = some z.cps[0] := Array.getElem?_eq_getElem (show 0 < z.length by omega)
  have h0 := hd_get g0
  generalize z.cps[0] = d at g0 h0
  have hz' : z.length ≤ sizeLine := small5 (by omega)
  unfold sortOf at q
  rw [h0] at q
  refine ⟨_, rfl, .str z, .str z, rfl, .str z, okd_str (okc_iff.mpr ok) (by omega), fun H1 s1 => ⟨_, rfl, ?_⟩⟩
  have q1 := q H1 s1
  show if isWordS z = true then _ else _
  cases ew : isWordS z with
  | true =>
    rw [ew, if_pos rfl] at q1
    exact iteT q1
  | false =>
    rw [ew, if_neg (by decide)] at q1
    refine iteF ?_
    refine ⟨_, rfl, z, rfl, _, rfl, ?_⟩
    cases er : isRes z with
    | true =>
      rw [er, Bool.true_or, if_pos rfl] at q1
      exact iteT q1
    | false =>
      rw [er, Bool.false_or] at q1
      refine iteF ?_
      refine ⟨_, rfl, _, _, rfl, rfl, _, rfl, ?_⟩
      show if inSg z = true then _ else _
      cases es : inSg z with
      | true =>
        rw [es, if_pos rfl] at q1
        exact iteT q1
      | false =>
        rw [es, if_neg (by decide)] at q1
        refine iteF ?_
        refine ⟨_, rfl, _, _, _, rfl, rfl, by decide, by decide, by omega, g0, d, rfl, _, rfl, ?_⟩
        cases ed : digC d with
        | false =>
          rw [ed, show (!false || decide (z.length > 19)) = true from rfl, if_pos rfl] at q1
          exact iteT q1
        | true =>
          rw [ed, show (!true || decide (z.length > 19)) = decide (z.length > 19) from rfl] at q1
          refine iteF ?_
          refine ⟨_, rfl, _, rfl, hz', _, _, rfl, rfl, _, rfl, ?_⟩
          by_cases h19 : z.length > 19
          · rw [decide_eq_true h19, if_pos rfl] at q1
            rw [decide_eq_true (show ((z.length : Nat) : Int) > 19 by omega)]
            exact iteT q1
          · rw [decide_eq_false h19, if_neg (by decide)] at q1
            rw [decide_eq_false (show ¬ ((z.length : Nat) : Int) > 19 by omega)]
            refine iteF ?_
            refine ⟨_, rfl, rfl, _, rfl, ?_⟩
            by_cases hz0 : z = "0"
            · rw [decide_eq_true hz0, Bool.true_or, if_pos rfl] at q1
              exact ifY hz0 q1
            · rw [decide_eq_false hz0, Bool.false_or] at q1
              refine ifN hz0 ?_
              refine ⟨_, rfl, _, _, _, rfl, rfl, by decide, by decide, by omega, g0, rfl, _, rfl, ?_⟩
              by_cases h48 : d = 48
              · subst h48
                rw [decide_eq_true rfl, show (!true) = false from rfl, if_neg (by decide)] at q1
                show if (!decide (V.str ⟨#[48]⟩ = V.str "0")) = true then _ else _
                rw [show decide (V.str ⟨#[48]⟩ = V.str "0") = true by decide +kernel]
                exact iteF q1
              · rw [decide_eq_false h48, show (!false) = true from rfl, if_pos rfl] at q1
                show if (!decide (V.str ⟨#[d]⟩ = V.str "0")) = true then _ else _
                rw [decide_eq_false (show ¬ V.str ⟨#[d]⟩ = V.str "0" from fun e => by
                  have e2 := congrArg cz (V.str.inj e)
                  have e3 : [d] = [48] := e2
                  exact h48 (by simpa using e3))]
                exact iteT q1
def sp_scanned : Sp := fun vs H Q _ => ∃ (z : Str) (ts : List Tok), vs = [.str z] ∧ okc z ∧ z.length ≤ 5000 ∧ Lex (cz z) 1 1 ts ∧ ∀ p acc H', Same H H' → H p = none → H' p = some (.lst acc) → DTs (hid [p] H') acc (ts.map tokD) → Q (.ref p) H'
theorem c_scanned (T : TLex K w mg) : Says P w K mg base 4 "scanned" ["text"] sp_scanned := by
  refine says T.d_scanned sc_scanned (fun vs H Q E h => ?_) (fun f cdv A outer s H vs Q E hr h => ?_)
  · obtain ⟨_, _, rfl, _⟩ := h; rfl
  refine ⟨_, (pss_cons (ps_set (i := 1) sc_scanned.nd rfl (.inl rfl) (pe_lst pa_nil))
    (pss_cons (ps_asg (pe_tup (pa_cons pe_int (pa_cons pe_int (pa_cons pe_int pa_nil)))) (pg_tup rfl (pgs_cons (pg_name (i := 2) sc_scanned.nd rfl (.inl rfl)) (pgs_cons (pg_name (i := 3) sc_scanned.nd rfl (.inl rfl)) (pgs_cons (pg_name (i := 4) sc_scanned.nd rfl (.inl rfl)) pgs_nil)))))
    (pss_cons (ps_while PassesOwn.never (pt_cmpR op_lt (pv 2) (pe_callB call_len_str (by rfl) T.tw.b_len (by decide +kernel) (pa_cons (pv 0) pa_nil)) (nomark _))
        (pss_cons (ps_set (i := 5) sc_scanned.nd rfl (.inl rfl) (pe_item_str (pv 0) (pv 2) (fun _ _ => rfl)))
        (pss_cons (ps_if (pt_cmpR op_eq (pv 5) pe_str (nomark _))
            (pss_one (ps_par (i := 3) (j := 4) rfl sc_scanned.nd rfl rfl (by decide) rfl rfl (pa_cons (pe_op op_add (pv 3) pe_int) (pa_cons (pe_op op_add (pv 2) pe_int) pa_nil)) rfl))
            pss_nil)
        (pss_one (ps_if (pt_cmpR op_in_sign (pv 5) pe_str (by rfl))
            (pss_one (ps_aug (i := 2) sc_scanned.nd rfl (.inl rfl) pe_int ip_add))
            (pss_one (ps_if (pt_cmpR op_eq (pv 5) pe_str (nomark _))
                (pss_one (ps_set (i := 2) sc_scanned.nd rfl (.inl rfl) (pe_s (c_note_end T) hr (pa_cons (pv 0) (pa_cons (pv 2) pa_nil)))))
                (pss_cons (ps_set (i := 6) sc_scanned.nd rfl (.inl rfl) (pe_s (c_token_end T) hr (pa_cons (pv 0) (pa_cons (pv 2) pa_nil))))
                (pss_cons (ps_set (i := 7) sc_scanned.nd rfl (.inl rfl) (pe_s (c_sort_of T) hr (pa_cons (pe_slice sl_str (pv 0) (po_some (pv 2)) (po_some (pv 6))) pa_nil)))
                (pss_cons (ps_expr (pe_bm PySem.F.plainAttrs_list PySem.F.slot_list_append PySem.F.type_list_append mt_append (pv 1) (pa_cons (pe_tup (pa_cons (pv 7) (pa_cons (pe_slice sl_str (pv 0) (po_some (pv 2)) (po_some (pv 6))) (pa_cons (pv 3) (pa_cons (pe_op op_add (pe_op op_sub (pv 2) (pv 4)) pe_int) pa_nil))))) pa_nil)))
                (pss_cons (ps_if (pt_cmpR op_eq (pv 7) pe_str (nomark _))
                    (pss_one (ps_ret (pv 1)))
                    pss_nil)
                (pss_one (ps_set (i := 2) sc_scanned.nd rfl (.inl rfl) (pv 6))))))))))))))
    (pss_cons (ps_expr (pe_bm PySem.F.plainAttrs_list PySem.F.slot_list_append PySem.F.type_list_append mt_append (pv 1) (pa_cons (pe_tup (pa_cons pe_str (pa_cons pe_str (pa_cons (pv 3) (pa_cons (pe_op op_add (pe_op op_sub (pv 2) (pv 4)) pe_int) pa_nil))))) pa_nil)))
    (pss_one (ps_ret (pv 1))))))), ?_⟩
  obtain ⟨z, ts, rfl, ok, hz, hl, q⟩ := h
  have hz' := small5 hz
  refine ⟨(show 0 ≤ sizeLine by decide), fun D nD => ?_⟩
  refine ⟨(show 3 ≤ sizeLine by decide), fun tt ntt => ?_⟩
  refine ⟨tt, _, rfl, SqT.of upd_same, rfl, _, _, rfl, _, _, rfl, _, _, rfl, rfl, ?_⟩
  have nDt : D ≠ tt := ne_of_none upd_same ntt
  have s0 : Same H (upd (upd H D (.lst [])) tt (.tup [.int 0, .int 1, .int 0])) := (same_new nD).trans (same_new ntt)
  have d0 : upd (upd H D (.lst [])) tt (.tup [.int 0, .int 1, .int 0]) D = some (.lst []) := (upd_ne nDt).trans upd_same
  generalize upd (upd H D (.lst [])) tt (.tup [.int 0, .int 1, .int 0]) = H0 at s0 d0 ⊢
  dsimp only [tSeq]
  refine while_by (fun σ H' => Same H H' ∧ ∃ (k l st : Nat) (acc : List V) (done ts' : List Tok) (x5 x6 x7 : Option V), σ = [some (.str z), some (.ref D), some (.int (k : Int)), some (.int (l : Int)), some (.int (st : Int)), x5, x6, x7] ∧ st ≤ k ∧ k ≤ z.length ∧ Lex ((cz z).drop k) l (k - st + 1) ts' ∧ done ++ ts' = ts ∧
      H' D = some (.lst acc) ∧ DTs (hid [D] H') acc (done.map tokD) ∧ acc.length ≤ k) (fun σ H' => muI 2 (z.length : Int) σ)
    ⟨s0, 0, 1, 0, [], [], ts, _, _, _, rfl, Nat.le_refl _, Nat.zero_le _, hl, rfl, d0, .nil, Nat.le_refl _⟩ ?_ ?_
  · rintro σ H1 ⟨s1, k, l, st, acc, done, ts', x5, x6, x7, rfl, hst, hk, lx, et, hD, da, la⟩
    refine ⟨_, rfl, _, rfl, z, rfl, hz', _, _, rfl, rfl, _, rfl, ?_⟩
    by_cases hlt : k < z.length
    · rw [decide_eq_true (show ((k : Nat) : Int) < ((z.length : Nat) : Int) by omega)]
      refine iteT ?_
      have gk : z.cps[((k : Nat) : Int).toNat]? = some z.cps[k] := by rw [Int.toNat_natCast]; exact Array.getElem?_eq_getElem hlt
      have hdr : (cz z).drop k = z.cps[k] :: (cz z).drop (k + 1) := by
        have : k < (cz z).length := by rw [cz_len]; exact hlt
        rw [List.drop_eq_getElem_cons this]
        rfl
      have ldr : ((cz z).drop k).length = z.length - k := by rw [List.length_drop, cz_len]
      refine ⟨_, rfl, _, rfl, _, _, _, rfl, rfl, by omega, by omega, by omega, gk, ?_⟩
      generalize z.cps[k] = d at hdr gk ⊢
      rw [hdr] at lx
      have neS : ∀ {e : Nat}, ¬ d = e → decide (V.str ⟨#[d]⟩ = V.str ⟨#[e]⟩) = false := fun {e} h => decide_eq_false fun q => h (by
        have e2 := congrArg cz (V.str.inj q)
        have e3 : [d] = [e] := e2
        simpa using e3)
      rcases lx.inv with ⟨rfl, ly⟩ | ⟨h9, ly⟩ | ⟨rfl, ly⟩ | ⟨hb, h35, h900, ly⟩ <;> clear lx
      · refine ⟨_, rfl, rfl, _, rfl, ?_⟩
        show if decide (V.str ⟨#[10]⟩ = V.str ⟨#[10]⟩) = true then _ else _
        rw [decide_eq_true rfl]
        refine iteT ?_
        refine ⟨_, rfl, _, _, rfl, rfl, _, rfl, _, _, rfl, rfl, _, _, rfl, ?_⟩
        refine ⟨_, rfl, _, _, rfl, rfl, _, rfl, ?_⟩
        rw [show decide (10 ∈ (" \t\n" : Str).cps.toList) = true by decide +kernel]
        refine iteT ?_
        refine ⟨_, rfl, _, _, rfl, rfl, ?_⟩
        refine ⟨⟨s1, k + 1, l + 1, k + 1, acc, done, ts', _, _, _, rfl, Nat.le_refl _, hlt, ?_, et, hD, da, by omega⟩, ?_⟩
        · rw [show k + 1 - (k + 1) + 1 = 1 by omega]
          exact ly
        · show (((z.length : Nat) : Int) - ((k : Int) + 1)).toNat < (((z.length : Nat) : Int) - (k : Int)).toNat
          omega
      · have n10 : ¬ d = 10 := by omega
        refine ⟨_, rfl, rfl, _, rfl, ?_⟩
        show if decide (V.str ⟨#[d]⟩ = V.str ⟨#[10]⟩) = true then _ else _
        rw [neS n10]
        refine iteF ?_
        refine ⟨_, rfl, _, _, rfl, rfl, _, rfl, ?_⟩
        rw [show decide (d ∈ (" \t\n" : Str).cps.toList) = true by rcases h9 with rfl | rfl <;> decide +kernel]
        refine iteT ?_
        refine ⟨_, rfl, _, _, rfl, rfl, ?_⟩
        refine ⟨⟨s1, k + 1, l, st, acc, done, ts', _, _, _, rfl, by omega, hlt, ?_, et, hD, da, by omega⟩, ?_⟩
        · rw [show k + 1 - st + 1 = k - st + 1 + 1 by omega]
          exact ly
        · show (((z.length : Nat) : Int) - ((k : Int) + 1)).toNat < (((z.length : Nat) : Int) - (k : Int)).toNat
          omega
      · refine ⟨_, rfl, rfl, _, rfl, ?_⟩
        show if decide (V.str ⟨#[35]⟩ = V.str ⟨#[10]⟩) = true then _ else _
        rw [neS (by decide)]
        refine iteF ?_
        refine ⟨_, rfl, _, _, rfl, rfl, _, rfl, ?_⟩
        rw [show decide (35 ∈ (" \t\n" : Str).cps.toList) = false by decide +kernel]
        refine iteF ?_
        refine ⟨_, rfl, rfl, _, rfl, ?_⟩
        show if decide (V.str ⟨#[35]⟩ = V.str ⟨#[35]⟩) = true then _ else _
        rw [decide_eq_true rfl]
        refine iteT ?_
        have n1 : noteLen ((cz z).drop k) ≤ ((cz z).drop k).length := tw_le
        have n2 : 1 ≤ noteLen ((cz z).drop k) := by
          rw [hdr]
          unfold noteLen
          rw [List.takeWhile_cons, if_pos (by decide), List.length_cons]
          omega
        rw [← hdr] at ly
        refine ⟨_, rfl, _, rfl, z, k, rfl, by omega, hz, ?_⟩
        generalize noteLen ((cz z).drop k) = m at n1 n2 ly ⊢
        refine ⟨⟨s1, k + m, l, st, acc, done, ts', _, _, _, rfl, by omega, by omega, ?_, et, hD, da, by omega⟩, ?_⟩
        · rw [show k + m - st + 1 = k - st + 1 + m by omega, ← List.drop_drop]
          exact ly
        · show (((z.length : Nat) : Int) - ((k + m : Nat) : Int)).toNat < (((z.length : Nat) : Int) - (k : Int)).toNat
          omega
      · have n10 : ¬ d = 10 := fun e => by subst e; cases hb
        have n32 : ¬ d = 32 := fun e => by subst e; cases hb
        have n9 : ¬ d = 9 := fun e => by subst e; cases hb
        refine ⟨_, rfl, rfl, _, rfl, ?_⟩
        show if decide (V.str ⟨#[d]⟩ = V.str ⟨#[10]⟩) = true then _ else _
        rw [neS n10]
        refine iteF ?_
        refine ⟨_, rfl, _, _, rfl, rfl, _, rfl, ?_⟩
        rw [show decide (d ∈ (" \t\n" : Str).cps.toList) = false from decide_eq_false fun m => by
          have m2 : d ∈ [32, 9, 10] := m
          simp only [List.mem_cons, List.not_mem_nil, or_false] at m2
          omega]
        refine iteF ?_
        refine ⟨_, rfl, rfl, _, rfl, ?_⟩
        show if decide (V.str ⟨#[d]⟩ = V.str ⟨#[35]⟩) = true then _ else _
        rw [neS h35]
        refine iteF ?_
        rw [← hdr] at ly h900
        have t2 : 1 ≤ tokLen ((cz z).drop k) := by
          rw [hdr]
          show 1 ≤ if rowC (lowC d) d = true then _ else _
          cases er : rowC (lowC d) d with
          | true =>
            rw [if_pos rfl, List.takeWhile_cons, er, if_pos rfl, List.length_cons]
            omega
          | false =>
            rw [if_neg (by decide)]
            exact Nat.le_refl _
        have t1 : tokLen ((cz z).drop k) ≤ ((cz z).drop k).length := by
          rw [hdr]
          show (if rowC (lowC d) d = true then _ else _) ≤ _
          split
          · exact tw_le
          · simp
        refine ⟨_, rfl, _, rfl, z, k, rfl, hlt, hz, ?_⟩
        generalize tokLen ((cz z).drop k) = m at t1 t2 ly h900 ⊢
        have hcut := cut_mid (z := z) (k := k) (n := m) (by omega)
        have okt := okc_cut ok k m
        have lzt : (zc (((cz z).drop k).take m)).length = m := by rw [zc_len, List.length_take]; omega
        refine ⟨_, rfl, _, rfl, _, rfl, _, rfl, _, rfl, z, rfl, hz', ?_⟩
        rw [hcut]
        generalize zc (((cz z).drop k).take m) = w at hcut ly okt lzt ⊢
        refine ⟨w, rfl, okt, by omega, by omega, fun H2 s2 => ?_⟩
        refine ⟨_, rfl, .inl ⟨rfl, _, SqL.of (s2 _ _ hD)⟩, ?_⟩
        refine ⟨_, rfl, _, rfl, _, rfl, _, rfl, _, rfl, _, rfl, z, rfl, hz', ?_⟩
        rw [hcut]
        refine ⟨_, rfl, _, rfl, _, rfl, _, _, rfl, rfl, _, _, rfl, rfl, (show 4 ≤ sizeLine by decide), fun t nt => ?_⟩
        have hD2 := s2 _ _ hD
        have ntD : t ≠ D := (ne_of_none hD2 nt).symm
        refine ⟨D, _, _, rfl, rfl, same_new nt _ _ hD2, small1000' (by omega), ?_⟩
        dsimp only
        have e4 : tokD (sortOf w, w, l, k - st + 1) = .tuple [.str (sortOf w), .str w, .int (l : Int), .int ((k : Int) - (st : Int) + 1)] := by
          unfold tokD
          rw [show (((k - st + 1 : Nat) : Nat) : Int) = (k : Int) - (st : Int) + 1 by omega]
        have s3 : Same H (upd (upd H2 t (.tup [.str (sortOf w), .str w, .int (l : Int), .int ((k : Int) - (st : Int) + 1)])) D (.lst (acc ++ [.ref t]))) := fun b o e => by
          rw [upd_ne (ne_of_none e nD)]
          exact same_new nt _ _ (s2 _ _ (s1 _ _ e))
        have d3 : DTs (hid [D] (upd (upd H2 t (.tup [.str (sortOf w), .str w, .int (l : Int), .int ((k : Int) - (st : Int) + 1)])) D (.lst (acc ++ [.ref t])))) (acc ++ [.ref t]) (done.map tokD ++ [tokD (sortOf w, w, l, k - st + 1)]) := by
          have sk : Same (hid [D] H1) (hid [D] (upd (upd H2 t (.tup [.str (sortOf w), .str w, .int (l : Int), .int ((k : Int) - (st : Int) + 1)])) D (.lst (acc ++ [.ref t])))) := fun b o e => by
            obtain ⟨n, e2⟩ := hid_out e
            refine hid_at n ?_
            rw [upd_ne (by simpa using n)]
            exact same_new nt _ _ (s2 _ _ e2)
          rw [e4]
          exact DTs.snoc (da.same sk _) (.tup (hid_at (nin1 ntD) ((upd_ne ntD).trans upd_same)) (.cons (.str _) (.cons (.str _) (.cons (.int _) (.cons (.int _) .nil)))))
        have h3 : (upd (upd H2 t (.tup [.str (sortOf w), .str w, .int (l : Int), .int ((k : Int) - (st : Int) + 1)])) D (.lst (acc ++ [.ref t]))) D = some (.lst (acc ++ [.ref t])) := upd_same
        generalize upd (upd H2 t (.tup [.str (sortOf w), .str w, .int (l : Int), .int ((k : Int) - (st : Int) + 1)])) D (.lst (acc ++ [.ref t])) = H3 at s3 d3 h3 ⊢
        refine ⟨_, rfl, rfl, _, rfl, ?_⟩
        rcases ly with ⟨ew, rfl⟩ | ⟨nw, ts2, rfl, ly⟩
        · refine ifY ew ?_
          refine ⟨_, rfl, ?_⟩
          show Q (.ref D) H3
          refine q D _ H3 s3 nD h3 ?_
          rw [← et, List.map_append]
          rw [ew] at d3
          exact d3
        · refine ifN nw ?_
          refine ⟨_, rfl, ?_⟩
          refine ⟨⟨s3, k + m, l, st, acc ++ [.ref t], done ++ [(sortOf w, w, l, k - st + 1)], ts2, _, _, _, rfl, by omega, by omega, ?_, ?_, h3, ?_, ?_⟩, ?_⟩
          · rw [show k + m - st + 1 = k - st + 1 + m by omega, ← List.drop_drop]
            exact ly
          · rw [← et, List.append_assoc]
            rfl
          · rw [List.map_append]
            exact d3
          · rw [List.length_append, List.length_singleton]
            omega
          · show (((z.length : Nat) : Int) - ((k + m : Nat) : Int)).toNat < (((z.length : Nat) : Int) - (k : Int)).toNat
            omega
    · rw [decide_eq_false (show ¬ ((k : Nat) : Int) < ((z.length : Nat) : Int) by omega)]
      refine iteF ?_
      obtain rfl : k = z.length := by omega
      rw [show (cz z).drop z.length = [] by rw [← cz_len z, List.drop_length]] at lx
      cases lx
      refine ⟨_, rfl, .inl ⟨rfl, _, SqL.of hD⟩, _, rfl, _, rfl, _, rfl, _, _, rfl, rfl, _, _, rfl, rfl, (show 4 ≤ sizeLine by decide), fun t nt => ?_⟩
      have ntD : t ≠ D := (ne_of_none hD nt).symm
      refine ⟨D, _, _, rfl, rfl, same_new nt _ _ hD, small1000' (by omega), ?_⟩
      refine ⟨_, rfl, q D _ _ ?_ nD upd_same ?_⟩
      · intro b o e
        rw [upd_ne (ne_of_none e nD)]
        exact same_new nt _ _ (s1 _ _ e)
      · rw [← et, List.map_append]
        have sk : Same (hid [D] H1) (hid [D] (upd (upd H1 t (.tup [.str "end", .str "", .int (l : Int), .int ((z.length : Int) - (st : Int) + 1)])) D (.lst (acc ++ [.ref t])))) := fun b o e => by
          obtain ⟨n, e2⟩ := hid_out e
          refine hid_at n ?_
          rw [upd_ne (by simpa using n)]
          exact same_new nt _ _ e2
        refine DTs.snoc (da.same sk _) ?_
        have e4 : tokD (("end" : Str), ("" : Str), l, z.length - st + 1) = .tuple [.str "end", .str "", .int (l : Int), .int ((z.length : Int) - (st : Int) + 1)] := by
          unfold tokD
          rw [show (((z.length - st + 1 : Nat) : Nat) : Int) = (z.length : Int) - (st : Int) + 1 by omega]
        rw [e4]
        exact .tup (hid_at (nin1 ntD) ((upd_ne ntD).trans upd_same)) (.cons (.str _) (.cons (.str _) (.cons (.int _) (.cons (.int _) .nil))))
  · rintro σ H1 Q1 Q2 mm ⟨v, e1, v2, e2, z2, e3, l2, i2, j2, e4, e5, b, eb, h⟩
    exact ⟨v, e1, v2, e2, z2, e3, l2, i2, j2, e4, e5, b, eb, mm _ _ h⟩
end
end Cb
set_option Elab.async false
set_option linter.all false
set_option maxRecDepth 100000
set_option maxHeartbeats 4000000
namespace Cb
open PySem PySem.Spec PyProof.Rows L2 ExS
abbrev s_tokens : Stmt := topS 19
theorem sc_tokens : FnScope ["text", "found"] ["text"] (defScope s_tokens) := ⟨rfl, rfl, rfl, by decide +kernel, rfl, by decide +kernel, by decide +kernel⟩
structure TErr (P : Program) (K : PySem.W.Frag) (mg : Str → Option Value) (CT CB : Addr) : Prop where
  bT : BillX P K mg CT "InvalidText"
  gB : mg "BillError" = some (.ref CB)
  exm : PySem.W.exmOne K (.ref CT) (.ref CB) = some true
  ec : ExcC K CT ∧ XfC K CT ∧ PySem.W.findIn K (.ref CT) "value" = some none
  own : PySem.W.kitOne K (.ref CT) (.ref CT) = some true
  ve : PySem.W.kitOne K (.ref CT) (.type "ValueError") = some true
structure TTok (P : Program) (K : PySem.W.Frag) (w : World) (mg : Str → Option Value) (CT CB : Addr) : Prop where
  tl : TLex K w mg
  te : TErr P K mg CT CB
  d_tokens : Has2 K mg "tokens" s_tokens ["text"] ["text"] (fun l => l)
theorem DTs.last {H : Hp} : ∀ {ds : List PyData} {xs : List V} {d : PyData}, DTs H xs (ds ++ [d]) → ∃ ys y, xs = ys ++ [y] ∧ DTs H ys ds ∧ DT H y d
  | [], xs, d, h => by
    cases h with
    | cons a r => cases r; exact ⟨[], _, rfl, .nil, a⟩
  | e :: ds, xs, d, h => by
    cases h with
    | cons a r =>
      obtain ⟨ys, y, rfl, h1, h2⟩ := DTs.last (ds := ds) r
      exact ⟨_ :: ys, y, rfl, .cons a h1, h2⟩
section
variable {P : Program} {w : World} {K : PySem.W.Frag} {mg : Str → Option Value} {base : Heap} {CT CB : Addr}
def okToks (H : Hp) (Q : VK) (ts : List Tok) : Prop := ∀ p acc H', Same H H' → H p = none → H' p = some (.lst acc) → DTs (hid [p] H') acc (ts.map tokD) → Q (.ref p) H'
def sp_tokens (CT : Addr) : Sp := fun vs H Q E => ∃ (z : Str) (ts0 : List Tok) (x : Tok), vs = [.str z] ∧ okc z ∧ z.length ≤ 5000 ∧ Lex (cz z) 1 1 (ts0 ++ [x]) ∧
  ((x.1 ≠ "wrong" ∧ okToks H Q (ts0 ++ [x])) ∨ (x.1 = "wrong" ∧ ∀ t H', Same H H' → H' t = some (.tup [.int (x.2.2.1 : Nat), .int (x.2.2.2 : Nat)]) → raised E CT (.ref t) H'))
theorem c_tokens (T : TTok P K w mg CT CB) : SaysX2 P w K mg base 5 "tokens" ["text"] ["text"] (fun l => l) (sp_tokens CT) := by
  refine saysX2 T.d_tokens sc_tokens (fun vs H Q E h => ?_) (fun f cdv A outer s H vs Q E hr h => ?_)
  · obtain ⟨_, _, _, rfl, _⟩ := h; rfl
  refine ⟨_, (pss_cons (ps_if (pt_not (pt_val (pe_callB call_isi (by rfl) T.tl.tw.b_isinstance (by decide +kernel) (pa_cons (pv 0) (pa_cons (pe_bltn (v := .ty "str") (by rfl) T.tl.tw.b_str (by decide +kernel) rfl) pa_nil)))))
        (pss_one ps_never)
        pss_nil)
    (pss_cons (ps_set (i := 1) sc_tokens.nd rfl (.inl rfl) (pe_s (c_scanned T.tl) hr (pa_cons (pv 0) pa_nil)))
    (pss_cons (ps_if (pt_cmpR op_eq (pe_ix ix_tup (pe_ix ix_list (pv 1) (pe_un un_neg pe_int) (fun _ _ => rfl)) pe_int (fun _ _ => rfl)) pe_str (nomark _))
        (pss_one (ps_raise rfl (takes_of rfl rfl rfl rfl) (pmk_bill T.te.bT (k := 3) hr rfl (pe_slice sl_tup (pe_ix ix_list (pv 1) (pe_un un_neg pe_int) (fun _ _ => rfl)) (po_some pe_int) po_none))))
        pss_nil)
    (pss_one (ps_ret (pv 1)))))), ?_⟩
  obtain ⟨z, ts0, x, rfl, ok, hz, hl, h⟩ := h
  refine ⟨_, rfl, _, _, _, _, _, rfl, .ty _, (DT.str (H := H) z).ty, kit_ty (kit_s (.str z)), _, rfl, iteF ?_⟩
  refine ⟨_, rfl, z, _, rfl, ok, hz, hl, fun p acc H1 s1 np hp da => ?_⟩
  have da0 := da
  rw [List.map_append] at da
  obtain ⟨ac, y, rfl, da1, da2⟩ := DTs.last da
  cases da2 with
  | @tup t xt _ et rt =>
    cases rt with
    | cons r1 rt =>
    cases rt with
    | cons r2 rt =>
    cases rt with
    | cons r3 rt =>
    cases rt with
    | cons r4 rt =>
    cases rt with
    | nil =>
    cases r1
    cases r2
    cases r3
    cases r4
    obtain ⟨ntp, et⟩ := hid_out et
    refine ⟨_, rfl, _, rfl, p, _, -1, .ref t, rfl, rfl, SqL.of hp, atI_last _ _, t, _, 0, _, rfl, rfl, SqT.of et, rfl, rfl, _, rfl, ?_⟩
    rcases h with ⟨hn, q⟩ | ⟨hw, q⟩
    · refine ifN hn ?_
      exact ⟨_, rfl, q p _ H1 s1 np hp da0⟩
    · refine ifY hw ?_
      refine ⟨_, rfl, _, rfl, p, _, -1, .ref t, rfl, rfl, SqL.of hp, atI_last _ _, _, rfl, t, _, rfl, SqT.of et, ?_, fun u nu => ⟨_, rfl, fun dd hdd => ?_⟩⟩
      · rintro ⟨h1, _⟩
        exact absurd h1 (by show ¬ HT.sIx 4 0 (some 2) = 0; decide)
      · exact q u _ (s1.trans (same_new nu)) upd_same dd hdd
end
end Cb
set_option Elab.async false
set_option linter.all false
set_option maxRecDepth 100000
set_option maxHeartbeats 4000000
namespace Cb
open PySem PySem.Spec PyProof.Rows L2 ExS TL
/-! ### which pieces are drawn -/
theorem res_low : ∀ z ∈ resL, lowC (hd0 z) = true ∧ z.length ≤ 30 ∧ 1 ≤ z.length ∧ (cz z).all (fun c => lowC c || digC c) = true := by decide +kernel
theorem signs_plain : ∀ c ∈ signsL, letd c = false ∧ blankC c = false ∧ c ≠ 35 := by decide +kernel
theorem signs_let {c : Nat} (h : letd c = true) : c ∉ signsL := fun m => by
  have := (signs_plain c m).1
  rw [h] at this
  cases this
theorem low_let {c : Nat} (h : lowC c = true) : letd c = true := by unfold letd; rw [h, Bool.or_true]
theorem dig_let {c : Nat} (h : digC c = true) : letd c = true := by unfold letd; rw [h, Bool.true_or]
theorem let_plain {c : Nat} (h : letd c = true) : blankC c = false ∧ c ≠ 35 ∧ c < 0x110000 := by
  unfold letd digC lowC at h
  simp only [Bool.or_eq_true, Bool.and_eq_true, decide_eq_true_eq] at h
  refine ⟨?_, by omega, by omega⟩
  unfold blankC
  rw [decide_eq_false (by omega), decide_eq_false (by omega), decide_eq_false (by omega)]
  rfl
theorem low_dig {c : Nat} (h : lowC c = true) : digC c = false := by
  unfold lowC at h
  unfold digC
  simp only [Bool.and_eq_true, decide_eq_true_eq] at h
  rw [decide_eq_false (show ¬ c ≤ 57 by omega), Bool.and_false]
theorem dig_low {c : Nat} (h : digC c = true) : lowC c = false := by
  cases e : lowC c with
  | false => rfl
  | true => rw [low_dig e] at h; cases h
theorem hd0_of {z : Str} {d : Nat} {cs : List Nat} (e : cz z = d :: cs) : hd0 z = d := by unfold hd0; rw [e]; rfl
theorem headLow_hd {z : Str} {d : Nat} {cs : List Nat} (e : cz z = d :: cs) : headLow z = lowC d := by
  unfold headLow
  rw [at_cz, e]
  rfl
def sortP (z : Str) : Str := if (decide (z ∈ resL) || !letd (hd0 z)) = true then "sign" else if digC (hd0 z) = true then "number" else "word"
/-- a row of letters and digits, a letter ahead -/
structure WordOk (z : Str) : Prop where
  ex : ∃ d cs, cz z = d :: cs ∧ lowC d = true ∧ ∀ c ∈ d :: cs, (lowC c || digC c) = true
  len : z.length ≤ 31
theorem WordOk.tok {z : Str} (h : WordOk z) : TokOk z := by
  obtain ⟨⟨d, cs, e, h1, h2⟩, l⟩ := h
  have hl := low_let h1
  refine ⟨⟨d, cs, e, (let_plain hl).1, (let_plain hl).2.1, .inr ⟨hl, fun c hc => ?_⟩⟩, by omega, fun c hc => ?_⟩
  · have := h2 c hc
    unfold rowC
    rw [h1, Bool.true_and, Bool.or_comm]
    exact this
  · have := h2 c (e ▸ hc)
    exact (let_plain (by unfold letd; rw [Bool.or_comm]; exact this)).2.2
theorem WordOk.sort {z : Str} (h : WordOk z) (l30 : z.length ≤ 30) : sortOf z = sortP z ∧ sortOf z ≠ "wrong" := by
  obtain ⟨⟨d, cs, e, h1, h2⟩, l⟩ := h
  have eh := hd0_of e
  have l1 : 1 ≤ z.length := by rw [← cz_len, e]; simp
  have ea : z.cps.toList.all (fun c => lowC c || digC c) = true := by
    show (cz z).all _ = true
    rw [e]
    exact List.all_eq_true.mpr h2
  have ew : isWordS z = !isRes z := by
    unfold isWordS
    rw [decide_eq_true l1, decide_eq_true l30, headLow_hd e, h1, ea]
    simp
  unfold sortOf sortP
  rw [ew, eh, low_let h1, low_dig h1]
  unfold isRes
  cases er : decide (z ∈ resL) with
  | true => exact ⟨rfl, (show ("sign" : Str) ≠ "wrong" by decide +kernel)⟩
  | false => exact ⟨rfl, (show ("word" : Str) ≠ "wrong" by decide +kernel)⟩
/-- digits -/
structure NumOk (z : Str) : Prop where
  ex : ∃ d cs, cz z = d :: cs ∧ ∀ c ∈ d :: cs, digC c = true
  len : z.length ≤ 30
theorem NumOk.tok {z : Str} (h : NumOk z) : TokOk z := by
  obtain ⟨⟨d, cs, e, h2⟩, l⟩ := h
  have h1 := h2 d (List.mem_cons_self ..)
  have hl := dig_let h1
  refine ⟨⟨d, cs, e, (let_plain hl).1, (let_plain hl).2.1, .inr ⟨hl, fun c hc => ?_⟩⟩, by omega, fun c hc => ?_⟩
  · unfold rowC
    rw [h2 c hc, Bool.true_or]
  · exact (let_plain (dig_let (h2 c (e ▸ hc)))).2.2
theorem NumOk.sort {z : Str} (h : NumOk z) (l19 : z.length ≤ 19) (z0 : z = "0" ∨ hd0 z ≠ 48) : sortOf z = sortP z ∧ sortOf z ≠ "wrong" := by
  obtain ⟨⟨d, cs, e, h2⟩, l⟩ := h
  have h1 := h2 d (List.mem_cons_self ..)
  have eh := hd0_of e
  have ew : isWordS z = false := by
    unfold isWordS
    rw [headLow_hd e, dig_low h1]
    simp
  have er : decide (z ∈ resL) = false := decide_eq_false fun m => by
    have := (res_low z m).1
    rw [eh, dig_low h1] at this
    cases this
  have ei : inSg z = false := by
    rw [← zc_cz z, e]
    exact inSg_no (signs_let (dig_let h1))
  have e0 : (decide (z = "0") || !decide (hd0 z = 48)) = true := by
    rcases z0 with h | h
    · rw [decide_eq_true h, Bool.true_or]
    · rw [decide_eq_false h]
      simp
  unfold sortOf sortP isRes
  rw [ew, ei, e0, er, eh, h1, dig_let h1, decide_eq_false (show ¬ z.length > 19 by omega)]
  exact ⟨rfl, (show ("number" : Str) ≠ "wrong" by decide +kernel)⟩
theorem one_tok {c : Nat} (h : letd c = false) (h1 : blankC c = false) (h2 : c ≠ 35) (h3 : c < 0x110000) : TokOk (zc [c]) :=
  ⟨⟨c, [], rfl, h1, h2, .inl ⟨h, rfl⟩⟩, by show 1 ≤ 40; decide, fun x hx => by rw [List.mem_singleton.mp (show x ∈ [c] from hx)]; exact h3⟩
theorem sign_sort {c : Nat} (m : c ∈ signsL) : sortOf (zc [c]) = sortP (zc [c]) ∧ sortOf (zc [c]) ≠ "wrong" := by
  revert c
  decide +kernel
/-- a piece that the law draws -/
def Piece (z : Str) : Prop := TokOk z ∧ sortOf z = sortP z ∧ sortOf z ≠ "wrong"
theorem piece_sign {c : Nat} (m : c ∈ signsL) : Piece (zc [c]) := ⟨one_tok (signs_plain c m).1 (signs_plain c m).2.1 (signs_plain c m).2.2 ((by decide +kernel : ∀ c ∈ signsL, c < 0x110000) c m), sign_sort m⟩
def wordsL : List Str := resL ++ (["a", "b7", "list", "letter", "ifs", "xxxxxxxxxxxxxxxxxxxxxxxxxxxxxx", "z00", "nota", "go2"] : List Str)
theorem words_ok : ∀ z ∈ wordsL, (match cz z with | [] => false | d :: cs => lowC d && (d :: cs).all fun c => lowC c || digC c) = true ∧ z.length ≤ 30 := by decide +kernel
theorem piece_word {z : Str} (m : z ∈ wordsL) : Piece z := by
  obtain ⟨h, l⟩ := words_ok z m
  cases e : cz z with
  | nil => rw [e] at h; cases h
  | cons d cs =>
    rw [e] at h
    obtain ⟨h1, h2⟩ := Bool.and_eq_true_iff.mp h
    have W : WordOk z := ⟨⟨d, cs, e, h1, List.all_eq_true.mp h2⟩, by omega⟩
    exact ⟨W.tok, W.sort l⟩
theorem val_lt : ∀ (l : List Nat) (a : Nat), NumText.AllDigits l → l.foldl (fun acc c => acc * 10 + (c - 48)) a < (a + 1) * 10 ^ l.length
  | [], a, _ => by simp
  | c :: l, a, h => by
    have h1 := h c (List.mem_cons_self ..)
    have ih := val_lt l (a * 10 + (c - 48)) fun d hd => h d (List.mem_cons_of_mem _ hd)
    rw [List.foldl_cons, List.length_cons, Nat.pow_succ]
    refine Nat.lt_of_lt_of_le ih ?_
    have : a * 10 + (c - 48) + 1 ≤ (a + 1) * 10 := by
      obtain ⟨_, _⟩ := h1
      omega
    calc (a * 10 + (c - 48) + 1) * 10 ^ l.length ≤ ((a + 1) * 10) * 10 ^ l.length := Nat.mul_le_mul_right _ this
      _ = (a + 1) * (10 ^ l.length * 10) := by rw [Nat.mul_assoc, Nat.mul_comm 10]
theorem numL_hd (n : Nat) : 1 ≤ n → ∃ d cs, numL n = d :: cs ∧ d ≠ 48 := by
  induction n using Nat.strongRecOn with
  | _ n ih =>
    intro h1
    by_cases h : n < 10
    · rw [numL_lt h]
      exact ⟨_, _, rfl, by omega⟩
    · rw [numL_step (by omega)]
      obtain ⟨d, cs, e, h2⟩ := ih (n / 10) (by omega) (by omega)
      rw [e]
      exact ⟨d, _, rfl, h2⟩
theorem piece_num {n : Nat} (h : n < 10 ^ 19) : Piece (Str.ofString (toString ((n : Nat) : Int))) := by
  have e : cz (Str.ofString (toString ((n : Nat) : Int))) = numL n := PySem.W.KIN.signs_num n
  have l : (Str.ofString (toString ((n : Nat) : Int))).length ≤ 19 := by
    rw [← cz_len, e]
    exact numL_len (by decide) h
  generalize Str.ofString (toString ((n : Nat) : Int)) = z at e l ⊢
  have dg := numL_digits n
  obtain ⟨d, cs, ed⟩ : ∃ d cs, numL n = d :: cs := by
    cases e2 : numL n with
    | nil => exact absurd e2 (numL_ne n)
    | cons d cs => exact ⟨d, cs, rfl⟩
  have N : NumOk z := by
    refine ⟨⟨d, cs, e.trans ed, fun c hc => ?_⟩, by omega⟩
    obtain ⟨h1, h2⟩ := dg c (ed ▸ hc)
    unfold digC
    rw [decide_eq_true h1, decide_eq_true h2]
    rfl
  refine ⟨N.tok, N.sort l ?_⟩
  by_cases h0 : n = 0
  · subst h0
    left
    rw [← zc_cz z, e]
    decide +kernel
  · right
    obtain ⟨d', cs', e', h'⟩ := numL_hd n (by omega)
    rw [hd0_of (e.trans e')]
    exact h'
end Cb
set_option Elab.async false
set_option linter.all false
set_option maxRecDepth 100000
set_option maxHeartbeats 4000000
namespace Cb
open PySem PySem.Spec PyProof.Rows L2 ExS
abbrev s_l_pick : Stmt := topS 25
theorem sc_l_pick : FnScope ["_law_generator_here", "_law_things"] ["_law_generator_here", "_law_things"] (defScope s_l_pick) := ⟨rfl, rfl, rfl, by decide +kernel, rfl, by decide +kernel, by decide +kernel⟩
abbrev s_l_reserved : Stmt := topS 26
theorem sc_l_reserved : FnScope ["_law_found"] [] (defScope s_l_reserved) := ⟨rfl, rfl, rfl, by decide +kernel, rfl, by decide +kernel, by decide +kernel⟩
abbrev s_l_blank : Stmt := topS 27
theorem sc_l_blank : FnScope ["_law_generator_here", "_law_least", "_law_way", "_law_found"] ["_law_generator_here", "_law_least"] (defScope s_l_blank) := ⟨rfl, rfl, rfl, by decide +kernel, rfl, by decide +kernel, by decide +kernel⟩
abbrev s_l_is_lettered : Stmt := topS 28
theorem sc_l_is_lettered : FnScope ["_law_piece"] ["_law_piece"] (defScope s_l_is_lettered) := ⟨rfl, rfl, rfl, by decide +kernel, rfl, by decide +kernel, by decide +kernel⟩
abbrev s_l_sort : Stmt := topS 30
theorem sc_l_sort : FnScope ["_law_piece"] ["_law_piece"] (defScope s_l_sort) := ⟨rfl, rfl, rfl, by decide +kernel, rfl, by decide +kernel, by decide +kernel⟩
abbrev s_l_drawn_pieces : Stmt := topS 31
theorem sc_l_drawn_pieces : FnScope ["_law_generator_here", "_law_found", "_law_turn", "_law_way"] ["_law_generator_here"] (defScope s_l_drawn_pieces) := ⟨rfl, rfl, rfl, by decide +kernel, rfl, by decide +kernel, by decide +kernel⟩
structure TPk (P : Program) (K : PySem.W.Frag) (w : World) (mg : Str → Option Value) (CT CB : Addr) : Prop where
  tt : TTok P K w mg CT CB
  tg : TGen K mg
  d_l_pick : Has K mg "_law_pick" s_l_pick ["_law_generator_here", "_law_things"]
  d_l_reserved : Has K mg "_law_reserved" s_l_reserved []
  d_l_blank : Has K mg "_law_blank" s_l_blank ["_law_generator_here", "_law_least"]
  d_l_is_lettered : Has K mg "_law_is_lettered" s_l_is_lettered ["_law_piece"]
  d_l_sort : Has K mg "_law_sort" s_l_sort ["_law_piece"]
  d_l_drawn_pieces : Has K mg "_law_drawn_pieces" s_l_drawn_pieces ["_law_generator_here"]
/-! ### the generator goes on -/
def Gn (g : Addr) (s t0 : Int) (n : Nat) (H : Hp) : Prop := ∃ a t : Int, H g = some (gen a s t) ∧ t0 ≤ t ∧ t ≤ t0 + n
theorem Gn.mono {g : Addr} {s t0 : Int} {n m : Nat} {H : Hp} (G : Gn g s t0 n H) (h : n ≤ m) : Gn g s t0 m H := by
  obtain ⟨a, t, e, l1, l2⟩ := G
  exact ⟨a, t, e, l1, by omega⟩
theorem Gn.some {g : Addr} {s t0 : Int} {n : Nat} {H : Hp} (G : Gn g s t0 n H) {p : Addr} (h : H p = none) : p ≠ g := by
  obtain ⟨a, t, e, _⟩ := G
  exact (ne_of_none e h).symm
theorem Gn.new {g : Addr} {s t0 : Int} {n : Nat} {H : Hp} (G : Gn g s t0 n H) {p : Addr} {o : HO} (h : H p = none) : Gn g s t0 n (upd H p o) := by
  obtain ⟨a, t, e, l⟩ := G
  exact ⟨a, t, same_new h _ _ e, l⟩
theorem Gn.off {g : Addr} {s t0 : Int} {n : Nat} {H : Hp} (G : Gn g s t0 n H) {p : Addr} {o : HO} (h : g ≠ p) : Gn g s t0 n (upd H p o) := by
  obtain ⟨a, t, e, l⟩ := G
  exact ⟨a, t, (upd_ne h).trans e, l⟩
theorem Gn.same {g : Addr} {s t0 : Int} {n : Nat} {H H' : Hp} (G : Gn g s t0 n H) (k : Same H H') : Gn g s t0 n H' := by
  obtain ⟨a, t, e, l⟩ := G
  exact ⟨a, t, k _ _ e, l⟩
theorem Gn.some' {g : Addr} {s t0 : Int} {n : Nat} {H : Hp} {p : Addr} {o : HO} (G : Gn g s t0 n (upd H p o)) (h : H p = none) (gl : ∀ a t : Int, o ≠ gen a s t := by intro a t z; cases z) : p ≠ g := by
  obtain ⟨a, t, e, _⟩ := G
  intro q
  rw [← q, upd_same] at e
  exact gl a t (Option.some.inj e)
theorem draw {g : Addr} {s t0 : Int} {n : Nat} {H : Hp} {b : Int} {Q : VK} {E : XK} (G : Gn g s t0 n H) (h0 : 0 ≤ t0) (h1 : t0 + n < 2 ^ 62) (b0 : 0 < b) (b1 : b.natAbs < 2 ^ 210)
    (q : ∀ (r : Int) (H' : Hp), 0 ≤ r → r < b → Gn g s t0 (n + 8) H' → Keep [g] H H' → Q (.int r) H') : sp_l_random [.ref g, .int b] H Q E := by
  obtain ⟨a, t, e, l1, l2⟩ := G
  unfold sp_l_random
  refine ⟨g, a, s, t, b, rfl, e, b0, b1, by omega, by omega, fun r a' t' r0 r1 t2 t3 => ?_⟩
  exact q r _ r0 r1 ⟨a', t', upd_same, by omega, by omega⟩ (keep_upd (by simp))
theorem pe_s0 {X : Cx} {k j : Nat} {x : Str} {sp : Sp} {p pos : Pos} (c : Says X.prog X.w X.K X.mg X.base k x [] sp) (hr : Room j X.A) (le : k ≤ j := by decide) (gl : Gl X x := by rfl) (nd : (x == ("__debug__" : Str)) = false := by decide) : PE X (.Call (.Name x p) [] [] pos) (tCall sp [] E0 tNil) := by
  obtain ⟨f, fd, F, hm, kp, b⟩ := c
  exact pe_call0 F (hr.mono le) gl hm kp b .nil pass0 nd
/-- which number stands at a place, of a bounded draw -/
theorem atI_in {α : Type} {xs : List α} {r : Int} (h0 : 0 ≤ r) (h1 : r < (xs.length : Int)) : ∃ x, x ∈ xs ∧ atI xs r = some x := by
  have e : ((r.toNat : Nat) : Int) = r := Int.toNat_of_nonneg h0
  have hl : r.toNat < xs.length := by omega
  refine ⟨xs[r.toNat], List.getElem_mem hl, ?_⟩
  have := atI_nat (xs := xs) (j := r.toNat) (v := xs[r.toNat]) (List.getElem?_eq_getElem hl)
  rwa [e] at this
def blks : List Str := [" ", "\n", "  ", "\t", " # a note ; ( 5\n", "\n\n  ", "#\n", " # Adds \"1\" _ $ . ' ! ? @ ^ 007 # x\t\n"]
section
variable {P : Program} {w : World} {K : PySem.W.Frag} {mg : Str → Option Value} {base : Heap} {CT CB : Addr}
def sp_pick : Sp := fun vs H Q _ => ∃ (g p : Addr) (s t0 : Int) (n : Nat) (zs : List Str), vs = [.ref g, .ref p] ∧ Gn g s t0 n H ∧ 0 ≤ t0 ∧ t0 + n < 2 ^ 62 ∧ p ≠ g ∧ H p = some (.lst (zs.map V.str)) ∧ 0 < zs.length ∧ zs.length ≤ 1000 ∧
  ∀ (z : Str) (H' : Hp), z ∈ zs → Gn g s t0 (n + 8) H' → Keep [g] H H' → Q (.str z) H'
theorem c_l_pick (T : TPk P K w mg CT CB) : Says P w K mg base 3 "_law_pick" ["_law_generator_here", "_law_things"] sp_pick := by
  refine says T.d_l_pick sc_l_pick (fun vs H Q E h => ?_) (fun f cdv A outer s H vs Q E hr h => ?_)
  · obtain ⟨_, _, _, _, _, _, rfl, _⟩ := h; rfl
  refine ⟨_, (pss_one (ps_ret (pe_ix ix_list (pv 1) (pe_s (c_l_random T.tg) hr (pa_cons (pv 0) (pa_cons (pe_callB call_len_seq (by rfl) T.tg.b_len (by decide +kernel) (pa_cons (pv 1) pa_nil)) pa_nil))) (fun _ _ => rfl)))), ?_⟩
  obtain ⟨g, p, s0, t0, n, zs, rfl, G, h0, h1, npg, hp, l0, l1, q⟩ := h
  refine ⟨_, rfl, _, rfl, _, rfl, p, _, rfl, .inl (SqL.of hp), ?_⟩
  have el : (((zs.map V.str).length : Nat) : Int) = (zs.length : Int) := by rw [List.length_map]
  refine draw G h0 h1 (by omega) (Nat.lt_of_lt_of_le (show (((zs.map V.str).length : Nat) : Int).natAbs < 2 ^ 11 by omega) (Nat.pow_le_pow_right (by decide) (by decide))) fun r H1 r0 r1 G1 k1 => ?_
  obtain ⟨x, hx, e⟩ := atI_in (xs := zs.map V.str) r0 r1
  obtain ⟨z, hz, rfl⟩ := List.mem_map.mp hx
  refine ⟨p, _, _, _, rfl, rfl, SqL.of (k1 _ _ (nin1 npg) hp), e, ?_⟩
  exact q z H1 hz G1 k1
def sp_reserved : Sp := fun vs H Q _ => vs = [] ∧ ∀ p, H p = none → Q (.ref p) (upd H p (.lst (resL.map V.str)))
theorem c_l_reserved (T : TPk P K w mg CT CB) : Says P w K mg base 1 "_law_reserved" [] sp_reserved := by
  refine says T.d_l_reserved sc_l_reserved (fun vs H Q E h => ?_) (fun f cdv A outer s H vs Q E hr h => ?_)
  · obtain ⟨rfl, _⟩ := h; rfl
  refine ⟨_, (pss_cons (ps_set (i := 0) sc_l_reserved.nd rfl (.inl rfl) pe_str)
    (pss_one (ps_ret (pe_split (pv 0) pe_str)))), ?_⟩
  obtain ⟨rfl, q⟩ := h
  refine ⟨_, rfl, ⟨_, rfl⟩, _, _, rfl, rfl, rfl, by decide +kernel, fun p hp => ?_⟩
  have e : Txt.split "calls catch drop else end fail flag fun go if in keep kind let match no not num raise take then to try use yes" " " = resL := by decide +kernel
  rw [e]
  exact q p hp
def sp_blank : Sp := fun vs H Q _ => ∃ (g : Addr) (k : Bool) (s t0 : Int) (n : Nat), vs = [.ref g, .bl k] ∧ Gn g s t0 n H ∧ 0 ≤ t0 ∧ t0 + (n + 8 : Nat) < 2 ^ 62 ∧
  ∀ (z : Str) (H' : Hp), (z ∈ blks ∨ (k = false ∧ z = "")) → Gn g s t0 (n + 16) H' → Keep [g] H H' → Q (.str z) H'
theorem c_l_blank (T : TPk P K w mg CT CB) : Says P w K mg base 3 "_law_blank" ["_law_generator_here", "_law_least"] sp_blank := by
  refine says T.d_l_blank sc_l_blank (fun vs H Q E h => ?_) (fun f cdv A outer s H vs Q E hr h => ?_)
  · obtain ⟨_, _, _, _, _, rfl, _⟩ := h; rfl
  refine ⟨_, (pss_cons (ps_set (i := 2) sc_l_blank.nd rfl (.inl rfl) (pe_s (c_l_random T.tg) hr (pa_cons (pv 0) (pa_cons pe_int pa_nil))))
    (pss_cons (ps_set (i := 3) sc_l_blank.nd rfl (.inl rfl) (pe_ix ix_list (pe_lst (pa_cons pe_str (pa_cons pe_str (pa_cons pe_str (pa_cons pe_str (pa_cons pe_str (pa_cons pe_str (pa_cons pe_str (pa_cons pe_str pa_nil))))))))) (pv 2) (fun _ _ => rfl)))
    (pss_one (ps_ret (pe_ifExp (PW.pt (pw_or (pt_val (pv 1)) (pw_or1 (pt_cmpR op_eq (pe_s (c_l_random T.tg) hr (pa_cons (pv 0) (pa_cons pe_int pa_nil))) pe_int (nomark _))))) (pv 3) pe_str))))), ?_⟩
  obtain ⟨g, k, s0, t0, n, rfl, G, h0, h1, q⟩ := h
  refine ⟨_, rfl, draw G h0 (by omega) (by decide) (by decide) fun r H1 r0 r1 G1 k1 => ?_⟩
  refine ⟨(show 8 ≤ sizeLine by decide), fun l nl => ?_⟩
  obtain ⟨x, hx, e⟩ := atI_in (xs := blks.map V.str) r0 r1
  obtain ⟨z, hz, rfl⟩ := List.mem_map.mp hx
  have k2 : Keep [g] H (upd H1 l (.lst (blks.map V.str))) := k1.trans (keep_new nl)
  have G2 : Gn g s0 t0 (n + 8) (upd H1 l (.lst (blks.map V.str))) := G1.new nl
  refine ⟨_, rfl, l, _, _, .str z, rfl, rfl, SqL.of upd_same, e, ?_⟩
  have k2' : Keep [g] H (upd H1 l (.lst (blks.map V.str))) := k2
  refine ⟨_, rfl, _, rfl, ?_⟩
  cases k with
  | true => exact iteT ⟨_, rfl, q z _ (.inl hz) (G2.mono (by omega)) k2⟩
  | false =>
    refine iteF ?_
    refine ⟨_, rfl, draw (n := n + 8) G2 h0 (by omega) (by decide) (by decide) fun r2 H3 r20 r21 G3 k3 => ?_⟩
    refine ⟨rfl, _, rfl, ?_⟩
    by_cases e0 : r2 = 0
    · subst e0
      rw [decide_eq_true rfl]
      exact iteT ⟨_, rfl, q z _ (.inl hz) (G3.mono (by omega)) (k2.trans k3)⟩
    · rw [decide_eq_false (fun h => e0 (V.int.inj h))]
      exact iteF (q "" _ (.inr ⟨rfl, rfl⟩) (G3.mono (by omega)) (k2.trans k3))
def sp_lettered : Sp := fun vs H Q _ => ∃ z : Str, vs = [.str z] ∧ 1 ≤ z.length ∧ z.length ≤ 5000 ∧ Q (.bl (letd (hd0 z))) H
theorem abc_let (c : Nat) : decide (c ∈ ("abcdefghijklmnopqrstuvwxyz0123456789" : Str).cps.toList) = letd c := by
  have e : ("abcdefghijklmnopqrstuvwxyz0123456789" : Str).cps.toList = [97, 98, 99, 100, 101, 102, 103, 104, 105, 106, 107, 108, 109, 110, 111, 112, 113, 114, 115, 116, 117, 118, 119, 120, 121, 122, 48, 49, 50, 51, 52, 53, 54, 55, 56, 57] := by decide +kernel
  rw [e]
  unfold letd digC lowC
  rw [Bool.eq_iff_iff]
  simp only [decide_eq_true_eq, List.mem_cons, List.not_mem_nil, or_false, Bool.or_eq_true, Bool.and_eq_true]
  omega
theorem dig_dig (c : Nat) : decide (c ∈ ("0123456789" : Str).cps.toList) = digC c := by
  have e : ("0123456789" : Str).cps.toList = [48, 49, 50, 51, 52, 53, 54, 55, 56, 57] := by decide +kernel
  rw [e]
  unfold digC
  rw [Bool.eq_iff_iff]
  simp only [decide_eq_true_eq, List.mem_cons, List.not_mem_nil, or_false, Bool.and_eq_true]
  omega
theorem c_l_is_lettered (T : TPk P K w mg CT CB) : Says P w K mg base 1 "_law_is_lettered" ["_law_piece"] sp_lettered := by
  refine says T.d_l_is_lettered sc_l_is_lettered (fun vs H Q E h => ?_) (fun f cdv A outer s H vs Q E hr h => ?_)
  · obtain ⟨_, rfl, _⟩ := h; rfl
  refine ⟨_, (pss_one (ps_ret (pe_cmpR op_in_sign (pe_item_str (pv 0) pe_int (fun _ _ => rfl)) pe_str (by rfl)))), ?_⟩
  obtain ⟨z, rfl, l1, l5, q⟩ := h
  have g0 : z.cps[(0 : Int).toNat]? = some z.cps[0] := Array.getElem?_eq_getElem (show 0 < z.length by omega)
  refine ⟨_, rfl, _, _, _, rfl, rfl, by decide, by decide, by omega, g0, _, _, rfl, rfl, ?_⟩
  rw [abc_let, ← hd_get g0]
  exact q
def sp_sort : Sp := fun vs H Q _ => ∃ z : Str, vs = [.str z] ∧ 1 ≤ z.length ∧ z.length ≤ 5000 ∧ ∀ H', Same H H' → Q (.str (sortP z)) H'
theorem inV_str (z : Str) (zs : List Str) : inV (.str z) (zs.map V.str) = decide (z ∈ zs) := by
  unfold inV
  induction zs with
  | nil => rfl
  | cons y zs ih =>
    rw [List.map_cons, List.any_cons, ih]
    have e : eqV (V.str y) (V.str z) = decide (z = y) := by
      by_cases h : z = y
      · subst h; simp [eqV]
      · simp [eqV, h, Ne.symm h]
    rw [e]
    by_cases h1 : z = y <;> by_cases h2 : z ∈ zs <;> simp [h1, h2]
theorem flat_strs (zs : List Str) : (zs.map V.str).all flatV = true := by
  rw [List.all_eq_true]
  intro v hv
  obtain ⟨z, _, rfl⟩ := List.mem_map.mp hv
  rfl
theorem c_l_sort (T : TPk P K w mg CT CB) : Says P w K mg base 2 "_law_sort" ["_law_piece"] sp_sort := by
  refine says T.d_l_sort sc_l_sort (fun vs H Q E h => ?_) (fun f cdv A outer s H vs Q E hr h => ?_)
  · obtain ⟨_, rfl, _⟩ := h; rfl
  refine ⟨_, (pss_cons (ps_if (PW.pt (pw_or (pt_cmpR op_in_seq (pv 0) (pe_s0 (c_l_reserved T) hr) (by rfl)) (pw_or1 (pt_not (pt_val (pe_s (c_l_is_lettered T) hr (pa_cons (pv 0) pa_nil)))))))
        (pss_one (ps_ret pe_str))
        pss_nil)
    (pss_one (ps_ret (pe_ifExp (pt_cmpR op_in_sign (pe_item_str (pv 0) pe_int (fun _ _ => rfl)) pe_str (by rfl)) pe_str pe_str)))), ?_⟩
  obtain ⟨z, rfl, l1, l5, q⟩ := h
  have g0 : z.cps[(0 : Int).toNat]? = some z.cps[0] := Array.getElem?_eq_getElem (show 0 < z.length by omega)
  refine ⟨_, rfl, rfl, fun p np => ?_⟩
  have q1 := q _ (same_new (o := .lst (resL.map V.str)) np)
  unfold sortP at q1
  refine ⟨p, _, rfl, .inl (SqL.of upd_same), rfl, flat_strs _, _, rfl, ?_⟩
  rw [if_neg (by decide), inV_str]
  cases er : decide (z ∈ resL) with
  | true =>
    rw [er, Bool.true_or, if_pos rfl] at q1
    exact iteT q1
  | false =>
    rw [er, Bool.false_or] at q1
    refine iteF ?_
    refine ⟨_, rfl, z, rfl, l1, l5, _, rfl, ?_⟩
    cases el : letd (hd0 z) with
    | false =>
      rw [el, show (!false) = true from rfl, if_pos rfl] at q1
      exact iteT q1
    | true =>
      rw [el, show (!true) = false from rfl, if_neg (by decide)] at q1
      refine iteF ?_
      refine ⟨_, rfl, _, _, _, rfl, rfl, by decide, by decide, by omega, g0, _, _, rfl, rfl, _, rfl, ?_⟩
      rw [dig_dig, ← hd_get g0]
      cases ed : digC (hd0 z) with
      | true =>
        rw [ed, if_pos rfl] at q1
        exact iteT q1
      | false =>
        rw [ed, if_neg (by decide)] at q1
        exact iteF q1
end
end Cb
set_option Elab.async false
set_option linter.all false
set_option maxRecDepth 100000
set_option maxHeartbeats 4000000
namespace Cb
open PySem PySem.Spec PyProof.Rows L2 ExS
def manyS (z : Str) (n : Nat) : Str := ⟨(List.replicate n z.cps).foldl (· ++ ·) #[]⟩
theorem op_mul_strA {X : Cx} : OpR X (binaryOp .Mult) (fun x y H Q => ∃ (z : Str) (n : Int), x = .str z ∧ y = .int n ∧ 2 ≤ n ∧ n ≤ 100 ∧ z.length = 1 ∧ (manyS z n.toNat).length ≤ sizeLine ∧ Q (.str (manyS z n.toNat)) H) := by
  intro pins s σ H x y v u Q I rx ry h
  obtain ⟨z, n, rfl, rfl, n0, n1, lz, sm, q⟩ := h
  obtain ⟨t, rfl⟩ := rx
  obtain ⟨t', rfl⟩ := ry
  refine PySem.P.mul_str ?_ ?_ ?_ ?_
  · have h1 : ¬ n < -(2 ^ 63 : Int) := by omega
    have h2 : ¬ n ≥ 2 ^ 63 := by omega
    rw [decide_eq_false h1, decide_eq_false h2]
    rfl
  · intro _ _
    rw [lz]
    have : (1 : Int) ≤ (2 ^ 63 - 1) / n := Int.le_ediv_of_mul_le (by omega) (by omega)
    omega
  · intro _ _
    rw [lz]
    unfold Builtin.Str.tooLong
    have : n.toNat ≤ 100 := by omega
    exact decide_eq_false (Nat.not_lt.mpr (Nat.le_trans (show 1 * n.toNat ≤ 100 by omega) (show 100 ≤ sizeLine by decide)))
  · have h1 : ¬ n < 1 := by omega
    have h2 : (n == 1 || z.length == 0) = false := by
      rw [lz]
      have : (n == 1) = false := by
        rw [beq_eq_false_iff_ne]
        omega
      rw [this]
      rfl
    rw [if_neg h1, h2]
    exact ⟨sm, ⟨.str (manyS z n.toNat), H, I.tok _, ⟨_, rfl⟩, q⟩⟩

/-! ### a text as a list of its signs -/
def rListS : List V → Hp → VK → Prop := fun xs H Q => ∃ z : Str, xs = [.str z] ∧ z.length ≤ sizeLine ∧ ∀ l, H l = none → Q (.ref l) (upd H l (.lst (((cz z).map fun c => zc [c]).map V.str)))
theorem call_list_strR {X : Cx} (hc : X.calm = true) : CallR X (.type "list") rListS := by
  intro pins s σ H xs us Q I r h
  obtain ⟨z, rfl, hz, q⟩ := h
  obtain ⟨u, rfl, rx⟩ := vals1 r
  obtain ⟨t, rfl⟩ := rx
  refine PySem.call_list_str (I.ok.hd hc) z t (fun h' tk acc c' hk e hi => ?_) hz
  refine ⟨.ref s.heap.objs.size, _, I.laid (t' := tk) hk (Nat.le_refl _) (show ObjOk X.prog X.w _ h' _ (.lst (((cz z).map fun c => zc [c]).map V.str)) from ⟨?_, acc.toList, c', ?_, by rw [Array.toArray_toList]; exact e⟩), rfl, q _ (I.hok.fresh (Nat.le_refl _))⟩
  · rw [List.length_map, List.length_map, cz_len]
    exact hz
  · refine vals_of_idx _ _ (by rw [List.length_map, List.length_map, cz_len, Array.length_toList]; exact hi.1) fun j u hj => ?_
    obtain ⟨c, t', hc', rfl⟩ := hi.2 j u (by rw [← Array.getElem?_toList]; exact hj)
    refine ⟨.str ⟨#[c]⟩, ?_, ⟨_, rfl⟩⟩
    rw [List.getElem?_map, List.getElem?_map, ← at_cz, hc']
    rfl
section
variable {P : Program} {w : World} {K : PySem.W.Frag} {mg : Str → Option Value} {base : Heap} {CT CB : Addr}
def sp_pieces : Sp := fun vs H Q _ => ∃ (g : Addr) (s t0 : Int) (n : Nat), vs = [.ref g] ∧ Gn g s t0 n H ∧ 0 ≤ t0 ∧ t0 + (n + 2000 : Nat) < 2 ^ 62 ∧
  ∀ (p : Addr) (zs : List Str) (H' : Hp), p ≠ g → H p = none → (∀ z ∈ zs, Piece z) → zs.length ≤ 29 → H' p = some (.lst (zs.map V.str)) → Gn g s t0 (n + 2000) H' → Keep [g] H H' → Q (.ref p) H'
theorem c_l_drawn_pieces (T : TPk P K w mg CT CB) : Says P w K mg base 4 "_law_drawn_pieces" ["_law_generator_here"] sp_pieces := by
  refine says T.d_l_drawn_pieces sc_l_drawn_pieces (fun vs H Q E h => ?_) (fun f cdv A outer s H vs Q E hr h => ?_)
  · obtain ⟨_, _, _, _, rfl, _⟩ := h; rfl
  refine ⟨_, (pss_cons (ps_set (i := 1) sc_l_drawn_pieces.nd rfl (.inl rfl) (pe_lst pa_nil))
    (pss_cons (ps_for PassesOwn.never rfl (pi_range1 (by rfl) T.tg.b_range (pa_cons (pe_s (c_l_random T.tg) hr (pa_cons (pv 0) (pa_cons pe_int pa_nil))) pa_nil)) (pg_name (i := 2) sc_l_drawn_pieces.nd rfl (.inl rfl))
        (pss_cons (ps_set (i := 3) sc_l_drawn_pieces.nd rfl (.inl rfl) (pe_s (c_l_random T.tg) hr (pa_cons (pv 0) (pa_cons pe_int pa_nil))))
        (pss_one (ps_if (pt_cmpR op_eq (pv 3) pe_int (nomark _))
            (pss_one (ps_expr (pe_bm PySem.F.plainAttrs_list PySem.F.slot_list_append PySem.F.type_list_append mt_append (pv 1) (pa_cons (pe_s (c_l_pick T) hr (pa_cons (pv 0) (pa_cons (pe_op op_cat (pe_s0 (c_l_reserved T) hr) (pe_lst (pa_cons pe_str (pa_cons pe_str (pa_cons pe_str (pa_cons pe_str (pa_cons pe_str (pa_cons (pe_op op_mul_strA pe_str pe_int) (pa_cons pe_str (pa_cons pe_str (pa_cons pe_str pa_nil))))))))))) pa_nil))) pa_nil))))
            (pss_one (ps_if (pt_cmpR op_eq (pv 3) pe_int (nomark _))
                (pss_one (ps_expr (pe_bm PySem.F.plainAttrs_list PySem.F.slot_list_append PySem.F.type_list_append mt_append (pv 1) (pa_cons (pe_callTy call_str_int (by rfl) T.tt.tl.tw.b_str (by decide +kernel) (pa_cons (pe_s (c_l_random T.tg) hr (pa_cons (pv 0) (pa_cons (pe_ix ix_list (pe_lst (pa_cons pe_int (pa_cons (pe_op op_powA pe_int pe_int) (pa_cons (pe_op op_powA pe_int pe_int) pa_nil)))) (pe_s (c_l_random T.tg) hr (pa_cons (pv 0) (pa_cons pe_int pa_nil))) (fun _ _ => rfl)) pa_nil))) pa_nil)) pa_nil))))
                (pss_one (ps_expr (pe_bm PySem.F.plainAttrs_list PySem.F.slot_list_append PySem.F.type_list_append mt_append (pv 1) (pa_cons (pe_s (c_l_pick T) hr (pa_cons (pv 0) (pa_cons (pe_callTy (call_list_strR rfl) (by rfl) T.tt.tl.tw.b_list (by decide +kernel) (pa_cons pe_str pa_nil)) pa_nil))) pa_nil))))))))))
    (pss_one (ps_ret (pv 1))))), ?_⟩
  obtain ⟨g, s0, t0, n, rfl, G, h0, h1, q⟩ := h
  refine ⟨(show 0 ≤ sizeLine by decide), fun D nD => ?_⟩
  have nDg : D ≠ g := G.some nD
  refine ⟨_, rfl, draw (G.new nD) h0 (by omega) (by decide) (by decide) fun r H1 r0 r1 G1 k1 => ?_⟩
  have d1 : H1 D = some (.lst (([] : List Str).map V.str)) := k1 _ _ (nin1 nDg) upd_same
  have K1 : Keep [g] H H1 := (keep_new nD).trans k1
  refine ⟨_, rfl, by omega, by omega, for_range (n := r.toNat) (fun i σ H' => (∃ x2 x3 : Option V, σ = [some (.ref g), some (.ref D), x2, x3]) ∧ Keep [g] H H' ∧ Gn g s0 t0 (n + 8 + 40 * i) H' ∧ ∃ zs : List Str, H' D = some (.lst (zs.map V.str)) ∧ (∀ z ∈ zs, Piece z) ∧ zs.length = i)
    ⟨⟨_, _, rfl⟩, K1, G1, [], d1, fun z hz => (by cases hz), rfl⟩ ?_ ?_⟩
  · rintro i σ H2 hi ⟨⟨x2, x3, rfl⟩, k2, G2, zs, d2, pz, lz⟩
    have hi30 : i < 30 := by omega
    have add : ∀ (y2 y3 : Option V) (z : Str) (H3 : Hp) (m : Nat), Piece z → Keep [g] H2 H3 → Gn g s0 t0 m H3 → m ≤ n + 8 + 40 * (i + 1) → ∃ l items v, V.ref D = .ref l ∧ [V.str z] = [v] ∧ H3 l = some (.lst items) ∧ items.length < sizeLine ∧
        ((∃ x2' x3' : Option V, [some (V.ref g), some (V.ref D), y2, y3] = [some (V.ref g), some (V.ref D), x2', x3']) ∧ Keep [g] H (upd H3 l (.lst (items ++ [v]))) ∧ Gn g s0 t0 (n + 8 + 40 * (i + 1)) (upd H3 l (.lst (items ++ [v]))) ∧ ∃ zs : List Str, (upd H3 l (.lst (items ++ [v]))) D = some (.lst (zs.map V.str)) ∧ (∀ z ∈ zs, Piece z) ∧ zs.length = i + 1) := by
      intro y2 y3 z H3 m hz k3 G3 hm
      refine ⟨D, _, _, rfl, rfl, k3 _ _ (nin1 nDg) d2, small1000' (by rw [List.length_map]; omega), ⟨_, _, rfl⟩, ?_, (G3.mono hm).off (Ne.symm nDg), zs ++ [z], ?_, ?_, by rw [List.length_append, lz]; rfl⟩
      · intro b o nb e
        rw [upd_ne (ne_of_none e nD)]
        exact k3 b o nb (k2 b o nb e)
      · rw [upd_same, List.map_append]
        rfl
      · intro y hy
        rcases List.mem_append.mp hy with hy | hy
        · exact pz y hy
        · rw [List.mem_singleton.mp hy]
          exact hz
    refine ⟨_, rfl, draw G2 h0 (by omega) (by decide) (by decide) fun way H3 w0 w1 G3 k3 => ?_⟩
    refine ⟨_, rfl, rfl, _, rfl, ?_⟩
    by_cases e0 : way = 0
    · subst e0
      rw [decide_eq_true rfl]
      refine iteT ?_
      refine ⟨_, rfl, .inl ⟨rfl, _, SqL.of (k3 _ _ (nin1 nDg) d2)⟩, _, rfl, rfl, fun a1 n1 => ?_⟩
      have g1 : Same H3 (upd H3 a1 (.lst (resL.map V.str))) := same_new n1
      refine ⟨"x", 30, rfl, rfl, by decide, by decide, rfl, by decide +kernel, ?_⟩
      rw [show manyS "x" (Int.toNat 30) = "xxxxxxxxxxxxxxxxxxxxxxxxxxxxxx" by decide +kernel]
      refine ⟨(show 9 ≤ sizeLine by decide), fun a2 n2 => ?_⟩
      have g2 := g1.trans (same_new (o := .lst [.str "a", .str "b7", .str "list", .str "letter", .str "ifs", .str "xxxxxxxxxxxxxxxxxxxxxxxxxxxxxx", .str "z00", .str "nota", .str "go2"]) n2)
      refine ⟨a1, a2, _, _, rfl, rfl, same_new n2 _ _ upd_same, upd_same, by decide +kernel, fun a3 n3 => ?_⟩
      have e3 : resL.map V.str ++ [.str "a", .str "b7", .str "list", .str "letter", .str "ifs", .str "xxxxxxxxxxxxxxxxxxxxxxxxxxxxxx", .str "z00", .str "nota", .str "go2"] = wordsL.map V.str := by
        unfold wordsL
        rw [List.map_append]
        rfl
      rw [e3]
      have g3 := g2.trans (same_new (o := .lst (wordsL.map V.str)) n3)
      have G4 := G3.same g3
      have k4 : Keep [g] H2 _ := k3.trans (same_keep g3)
      refine ⟨g, a3, s0, t0, _, wordsL, rfl, G4, h0, by omega, (G3.same g2).some n3, upd_same, by decide +kernel, by decide +kernel, fun z H5 hz G5 k5 => ?_⟩
      exact add _ _ z H5 _ (piece_word hz) (k4.trans k5) G5 (by omega)
    · rw [decide_eq_false (fun h => e0 (V.int.inj h))]
      refine iteF ?_
      refine ⟨_, rfl, rfl, _, rfl, ?_⟩
      by_cases e1 : way = 1
      · subst e1
        rw [decide_eq_true rfl]
        refine iteT ?_
        refine ⟨_, rfl, .inl ⟨rfl, _, SqL.of (k3 _ _ (nin1 nDg) d2)⟩, _, rfl, ?_⟩
        refine ⟨_, _, rfl, rfl, ⟨by decide, by decide +kernel⟩, _, _, rfl, rfl, ⟨by decide, by decide +kernel⟩, (show 3 ≤ sizeLine by decide), fun a1 n1 => ?_⟩
        have n1g := G3.some n1
        refine ⟨_, rfl, draw (G3.new n1) h0 (by omega) (by decide) (by decide) fun r4 H4 r40 r41 G4 k4 => ?_⟩
        obtain ⟨b, hb, e⟩ : ∃ b : Int, (0 < b ∧ b ≤ 10 ^ 19) ∧ atI [V.int 10, V.int (10 ^ Int.toNat 3), V.int (10 ^ Int.toNat 19)] r4 = some (V.int b) := by
          have : r4 = 0 ∨ r4 = 1 ∨ r4 = 2 := by omega
          rcases this with rfl | rfl | rfl
          · exact ⟨10, by decide, rfl⟩
          · exact ⟨10 ^ Int.toNat 3, by decide, rfl⟩
          · exact ⟨10 ^ Int.toNat 19, by decide +kernel, rfl⟩
        refine ⟨a1, _, r4, _, rfl, rfl, SqL.of (k4 _ _ (nin1 n1g) upd_same), e, ?_⟩
        have big : b.natAbs < 2 ^ 210 := Nat.lt_of_le_of_lt (show b.natAbs ≤ 10 ^ 19 by omega) (by decide)
        refine draw G4 h0 (by omega) (by omega) big fun r5 H5 r50 r51 G5 k5 => ?_
        refine ⟨r5, rfl, ?_, ?_⟩
        · exact Nat.lt_of_lt_of_le (PySem.Flt.log2_lt_of (by decide) (show r5.natAbs < 2 ^ 64 from Nat.lt_of_lt_of_le (show r5.natAbs < 10 ^ 19 by omega) (by decide))) (by decide)
        · have e5 : r5 = ((r5.toNat : Nat) : Int) := (Int.toNat_of_nonneg r50).symm
          have pn := piece_num (n := r5.toNat) (by omega)
          rw [← e5] at pn
          exact add _ _ _ H5 _ pn (((k3.trans (keep_new n1)).trans k4).trans k5) G5 (by omega)
      · rw [decide_eq_false (fun h => e1 (V.int.inj h))]
        refine iteF ?_
        refine ⟨_, rfl, .inl ⟨rfl, _, SqL.of (k3 _ _ (nin1 nDg) d2)⟩, _, rfl, ?_⟩
        refine ⟨SIGNS, rfl, by decide +kernel, fun a1 n1 => ?_⟩
        have n1g := G3.some n1
        refine ⟨g, a1, s0, t0, _, (cz SIGNS).map fun c => zc [c], rfl, G3.new n1, h0, by omega, n1g, upd_same, by decide +kernel, by decide +kernel, fun z H5 hz G5 k5 => ?_⟩
        obtain ⟨c, hc, rfl⟩ := List.mem_map.mp hz
        exact add _ _ _ H5 _ (piece_sign hc) ((k3.trans (keep_new n1)).trans k5) G5 (by omega)
  · rintro σ H2 ⟨⟨x2, x3, rfl⟩, k2, G2, zs, d2, pz, lz⟩
    refine ⟨_, rfl, q D zs H2 nDg nD pz (by omega) d2 (G2.mono (by omega)) k2⟩
end
end Cb
set_option Elab.async false
set_option linter.all false
set_option maxRecDepth 100000
set_option maxHeartbeats 4000000
namespace Cb
open PySem PySem.Spec PyProof.Rows L2 ExS
abbrev s_l_spaced : Stmt := topS 29
abbrev NSp : List Str := ["_law_generator_here", "_law_pieces", "_law_found", "_law_places", "_law_line", "_law_column", "_law_at", "_law_piece", "_law_needed", "_law_blank_here", "_law_sign"]
theorem sc_l_spaced : FnScope NSp ["_law_generator_here", "_law_pieces"] (defScope s_l_spaced) := ⟨rfl, rfl, rfl, by decide +kernel, rfl, by decide +kernel, by decide +kernel⟩
/-! ### the blanks that are drawn -/
def blF : Nat → List Nat → Bool
  | _, [] => true
  | 0, _ :: _ => false
  | f + 1, d :: cs => if blankC d = true then blF f cs else if d = 35 then
      (match cs.dropWhile (fun c => decide (c ≠ 10)) with
      | [] => false
      | e :: b => decide (e = 10) && blF f (e :: b)) else false
theorem tw_all {α : Type} {p : α → Bool} : ∀ (l : List α), ∀ x ∈ l.takeWhile p, p x = true
  | [], x, h => by simp at h
  | y :: l, x, h => by
    rw [List.takeWhile_cons] at h
    cases e : p y with
    | false => rw [e] at h; simp at h
    | true =>
      rw [e, if_pos rfl] at h
      rcases List.mem_cons.mp h with rfl | h
      · exact e
      · exact tw_all l x h
theorem blF_bl : ∀ (f : Nat) (b : List Nat), blF f b = true → Bl b
  | _, [], _ => .nil
  | 0, _ :: _, h => by simp [blF] at h
  | f + 1, d :: cs, h => by
    unfold blF at h
    by_cases h1 : blankC d = true
    · rw [if_pos h1] at h
      exact .sp h1 (blF_bl f cs h)
    · rw [if_neg h1] at h
      by_cases h2 : d = 35
      · rw [if_pos h2] at h
        subst h2
        cases e : cs.dropWhile (fun c => decide (c ≠ 10)) with
        | nil => rw [e] at h; cases h
        | cons x b =>
          rw [e] at h
          obtain ⟨h3, h4⟩ := Bool.and_eq_true_iff.mp h
          have h3 : x = 10 := of_decide_eq_true h3
          subst h3
          have e2 : cs = cs.takeWhile (fun c => decide (c ≠ 10)) ++ 10 :: b := by
            rw [← e]
            exact (List.takeWhile_append_dropWhile ..).symm
          rw [e2]
          refine .note (fun c hc => ?_) (blF_bl f _ h4)
          exact of_decide_eq_true (tw_all cs c hc)
      · rw [if_neg h2] at h
        cases h
theorem blks_F : ∀ b ∈ blks, blF 60 (cz b) = true ∧ b.length ≤ 44 ∧ 1 ≤ b.length ∧ (cz b).all (fun c => decide (c < 0x110000)) = true := by decide +kernel
theorem bl_of {b : Str} {k : Bool} (h : b ∈ blks ∨ (k = false ∧ b = "")) : Bl (cz b) ∧ b.length ≤ 44 ∧ okc b ∧ (k = true → cz b ≠ []) := by
  rcases h with h | ⟨rfl, rfl⟩
  · obtain ⟨h1, h2, h3, h4⟩ := blks_F b h
    refine ⟨blF_bl _ _ h1, h2, fun c hc => of_decide_eq_true (List.all_eq_true.mp h4 c hc), fun _ e => ?_⟩
    rw [← cz_len, e] at h3
    simp at h3
  · exact ⟨.nil, by decide, (fun c hc => by cases hc), (fun h => by cases h)⟩
def ends4 : List Str := ["", "", "  ", "# The end"]
theorem ends_len : ∀ e ∈ ends4, e.length ≤ 9 ∧ (cz e).all (fun c => decide (c < 0x110000)) = true := by decide +kernel
def codesEnd : List Nat := [32, 84, 104, 101, 32, 101, 110, 100]
theorem ends_cz : ∀ e ∈ ends4, cz e = [] ∨ cz e = [32, 32] ∨ cz e = 35 :: codesEnd := by decide +kernel
/-- what stands behind the last piece -/
structure Tail (t : List Nat) (l c : Nat) : Prop where
  lex : Lex t l c [("end", "", (adv t (l, c)).1, (adv t (l, c)).2)]
  last : lastLet t
theorem tail_of {b e : Str} (hb : Bl (cz b)) (he : e ∈ ends4) (l c : Nat) : Tail (cz b ++ cz e) l c := by
  have key : ∀ t, (t = [] ∨ t = [32, 32] ∨ t = 35 :: codesEnd) → ∀ l c, Lex t l c [("end", "", (adv t (l, c)).1, (adv t (l, c)).2)] ∧ lastLet t := by
    intro t ht l c
    rcases ht with rfl | rfl | rfl
    · exact ⟨.fin, fun c r e => by cases e⟩
    · exact ⟨.bl (.inl rfl) (.bl (.inl rfl) .fin), fun c r e => by cases e; rfl⟩
    · refine ⟨?_, fun c r e => by cases e; rfl⟩
      have := lex_end (m := codesEnd) (by decide) (l := l) (c := c)
      exact this
  refine ⟨?_, ?_⟩
  · rw [adv_app]
    exact lex_bl hb (key _ (ends_cz e he) _ _).1
  · by_cases n : cz b = []
    · rw [n, List.nil_append]
      exact (key _ (ends_cz e he) l c).2
    · exact bl_head hb n _
def posD (q : Nat × Nat) : PyData := .tuple [.int (q.1 : Nat), .int (q.2 : Nat)]
theorem hid2_out {a b : Addr} {H : Hp} {x : Addr} {o : HO} (e : hid [a, b] H x = some o) : x ≠ a ∧ x ≠ b ∧ H x = some o := by
  obtain ⟨n, e2⟩ := hid_out e
  simp only [List.mem_cons, List.not_mem_nil, or_false, not_or] at n
  exact ⟨n.1, n.2, e2⟩
theorem hid2_at {a b : Addr} {H : Hp} {x : Addr} {o : HO} (h1 : x ≠ a) (h2 : x ≠ b) (e : H x = some o) : hid [a, b] H x = some o := hid_at (by simp [h1, h2]) e
theorem lastHd_take {ps : List Str} {i : Nat} {p : Str} (h : ps[i]? = some p) : lastHd (ps.take (i + 1)) = letd (hd0 p) := by
  have e : ps.take (i + 1) = ps.take i ++ [p] := by rw [List.take_add_one, h]; rfl
  unfold lastHd
  rw [e, List.getLast?_append]
  rfl
structure TSp (P : Program) (K : PySem.W.Frag) (w : World) (mg : Str → Option Value) (CT CB : Addr) : Prop where
  tp : TPk P K w mg CT CB
  d_l_spaced : Has K mg "_law_spaced" s_l_spaced ["_law_generator_here", "_law_pieces"]
  b_enumerate : mg "enumerate" = none
theorem Keep.free {S : List Addr} {H H' : Hp} (k : Keep S H H') {p : Addr} (h : H' p = none) (n : p ∉ S) : H p = none := by
  cases e : H p with
  | none => rfl
  | some o =>
    rw [k p o n e] at h
    cases h
theorem none_upd {H : Hp} {p q : Addr} {o : HO} (h : upd H q o p = none) : H p = none := by
  by_cases e : p = q
  · subst e
    rw [upd_same] at h
    cases h
  · rw [upd_ne e] at h
    exact h
theorem zc_app (z : List Nat) (b : Str) : zc z ++ b = zc (z ++ cz b) := by
  rw [← zc_cz (zc z ++ b), cz_app, cz_zc]
theorem cz_take {b : Str} {j : Nat} {c : Nat} (h : b.cps[j]? = some c) : (cz b).take (j + 1) = (cz b).take j ++ [c] := by
  have e : (cz b)[j]? = some c := by
    have : b.cps.toList[j]? = some c := by rw [Array.getElem?_toList]; exact h
    exact this
  rw [List.take_add_one, e]
  rfl
/-- the lines and columns of a blank, walked -/
theorem nl_loop {K : PySem.W.Frag} {D : Ends} {a0 a1 : V} {z : Str} {a3 : V} {l c : Nat} {x6 x7 x8 x10 : Option V} {b : Str} {H : Hp}
    (hd : ∀ (y10 : Option V) (H' : Hp), Same H H' → D.nx [some a0, some a1, some (.str z), some a3, some (.int ((adv (cz b) (l, c)).1 : Nat)), some (.int ((adv (cz b) (l, c)).2 : Nat)), x6, x7, x8, some (.str b), y10] H') :
    tFor (iStr (tVar 9)) (gName 10)
      (tAsg (tIf (tTest (tOp rEq (tVar 10) (tC (V.str (Str.ofString "\n")))))
          (tTup (tCons (tOp (rI0 fun i j => V.int (i + j)) (tVar 4) (tC (V.int 1))) (tCons (tC (V.int 1)) tNil)))
          (tTup (tCons (tVar 4) (tCons (tOp (rI0 fun i j => V.int (i + j)) (tVar 5) (tC (V.int 1))) tNil))))
        (gTup K 2 (gCons (gName 4) (gCons (gName 5) gNil)))) D
      [some a0, some a1, some (.str z), some a3, some (.int (l : Nat)), some (.int (c : Nat)), x6, x7, x8, some (.str b), x10] H := by
  refine ⟨_, rfl, b, rfl, for_it walk_str (fun j σ H' => (∃ y10 : Option V, σ = [some a0, some a1, some (.str z), some a3, some (.int ((adv ((cz b).take j) (l, c)).1 : Nat)), some (.int ((adv ((cz b).take j) (l, c)).2 : Nat)), x6, x7, x8, some (.str b), y10]) ∧ Same H H')
    ⟨⟨x10, rfl⟩, fun _ _ e => e⟩ (fun _ _ _ _ _ => trivial) ?_ ?_⟩
  · rintro j x σ H2 H3 hj ⟨⟨y10, rfl⟩, k2⟩ ⟨rfl, d, hc, rfl⟩
    have et := cz_take hc
    refine ⟨_, rfl, rfl, _, rfl, ?_⟩
    have ed : decide (V.str ({ cps := #[d] } : Str) = V.str "\n") = decide (d = 10) := by
      have e10 : ("\n" : Str) = ⟨#[10]⟩ := rfl
      rw [e10]
      by_cases h : d = 10
      · subst h; simp
      · simp [h]
    rw [ed]
    by_cases h : d = 10
    · rw [decide_eq_true h]
      refine iteT ?_
      refine ⟨_, rfl, _, _, rfl, rfl, (show 2 ≤ sizeLine by decide), fun tn htn => ?_⟩
      refine ⟨tn, _, rfl, SqT.of upd_same, rfl, _, _, rfl, _, [], rfl, rfl, ⟨some (.str ⟨#[d]⟩), ?_⟩, fun p o e => same_new htn p o (k2 p o e)⟩
      · rw [et, adv_app]
        generalize adv ((cz b).take j) (l, c) = q0
        have ea : adv [d] q0 = (q0.1 + 1, 1) := if_pos h
        rw [ea]
        rfl
    · rw [decide_eq_false h]
      refine iteF ?_
      refine ⟨_, rfl, _, rfl, _, _, rfl, rfl, (show 2 ≤ sizeLine by decide), fun tn htn => ?_⟩
      refine ⟨tn, _, rfl, SqT.of upd_same, rfl, _, _, rfl, _, [], rfl, rfl, ⟨some (.str ⟨#[d]⟩), ?_⟩, fun p o e => same_new htn p o (k2 p o e)⟩
      · rw [et, adv_app]
        generalize adv ((cz b).take j) (l, c) = q0
        have ea : adv [d] q0 = (q0.1, q0.2 + 1) := if_neg h
        rw [ea]
        rfl
  · rintro σ H2 ⟨⟨y10, rfl⟩, k2⟩
    have e : (cz b).take b.cps.size = cz b := List.take_of_length_le (Nat.le_of_eq (by rw [cz_len]; rfl))
    rw [e]
    exact hd _ H2 k2
theorem c_needed {K : PySem.W.Frag} {ps : List Str} {i : Nat} {a0 : V} {pp : Addr} {x2 x3 x4 x5 x8 x9 x10 : Option V} {H : Hp} {Q : VK} (hle : ∀ p ∈ ps, 1 ≤ p.length ∧ p.length ≤ 5000) (hi : i < ps.length) (hpp : H pp = some (.lst (ps.map V.str)))
    (q : ∀ kk : Bool, kk = (lastHd (ps.take i) && letd (hd0 ps[i])) → Q (V.bl kk) H) :
    tAndV (tOp (rI0 fun i j => V.bl (decide (j < i))) (tVar 6) (tC (V.int 0)))
      (tAndV (tCall sp_lettered [] E0 (tCons (tOp (rIxL K) (tVar 1) (tOp (rI0 fun i j => V.int (i - j)) (tVar 6) (tC (V.int 1)))) tNil))
        (tCall sp_lettered [] E0 (tCons (tVar 7) tNil)))
      [some a0, some (.ref pp), x2, x3, x4, x5, some (.int (i : Nat)), some (.str ps[i]), x8, x9, x10] H Q := by
  obtain ⟨p1, p2⟩ := hle _ (List.getElem_mem hi)
  refine ⟨_, rfl, _, _, rfl, rfl, _, rfl, ?_⟩
  rcases Nat.eq_zero_or_pos i with rfl | ip
  · exact q false rfl
  · have e0 : decide ((0 : Int) < (i : Nat)) = true := decide_eq_true (by omega)
    rw [e0, if_pos rfl]
    obtain ⟨i', rfl⟩ : ∃ i', i = i' + 1 := ⟨i - 1, by omega⟩
    have hi' : i' < ps.length := by omega
    have ei : (((i' + 1 : Nat) : Int) - 1) = (i' : Nat) := by omega
    obtain ⟨q1, q2⟩ := hle _ (List.getElem_mem hi')
    have ls : lastHd (ps.take (i' + 1)) = letd (hd0 ps[i']) := lastHd_take (List.getElem?_eq_getElem hi')
    refine ⟨_, rfl, _, rfl, _, _, rfl, rfl, pp, _, _, .str ps[i'], rfl, rfl, SqL.of hpp, ?_, ps[i'], rfl, q1, q2, _, rfl, ?_⟩
    · rw [ei, atI_nat]
      rw [List.getElem?_map, List.getElem?_eq_getElem hi']
      rfl
    · cases eh : letd (hd0 ps[i']) with
      | false =>
        rw [if_neg (by decide)]
        exact q false (by rw [ls, eh]; rfl)
      | true =>
        rw [if_pos rfl]
        refine ⟨_, rfl, _, rfl, p1, p2, ?_⟩
        exact q _ (by rw [ls, eh]; rfl)
section
variable {P : Program} {w : World} {K : PySem.W.Frag} {mg : Str → Option Value} {base : Heap} {CT CB : Addr}
/-- a laid out text, as it is told -/
structure SpOut (g : Addr) (ps : List Str) (z t : List Nat) (pls : List (Nat × Nat)) (l c : Nat) (r pl lt : Addr) (pv : List V) (H H' : Hp) : Prop where
  laid : Laid ps z pls l c
  tail : Tail t l c
  hr : H' r = some (.lst [.str (zc (z ++ t)), .ref pl, .ref lt])
  hp : H' pl = some (.lst pv)
  dp : DTs (hid [g, pl] H') pv (pls.map posD)
  ht : H' lt = some (.tup [.int ((adv t (l, c)).1 : Nat), .int ((adv t (l, c)).2 : Nat)])
  okc : okc (zc (z ++ t))
  len : (zc (z ++ t)).length ≤ 5000
  nr : H r = none
  np : H pl = none
  nt : H lt = none
  keep : Keep [g] H H'
def sp_spaced : Sp := fun vs H Q _ => ∃ (g pp : Addr) (s t0 : Int) (n : Nat) (ps : List Str), vs = [.ref g, .ref pp] ∧ Gn g s t0 n H ∧ 0 ≤ t0 ∧ t0 + (n + 2000 : Nat) < 2 ^ 62 ∧ pp ≠ g ∧ H pp = some (.lst (ps.map V.str)) ∧ (∀ p ∈ ps, TokOk p) ∧ ps.length ≤ 31 ∧
  ∀ (z t : List Nat) (pls : List (Nat × Nat)) (l c : Nat) (r pl lt : Addr) (pv : List V) (H' : Hp), SpOut g ps z t pls l c r pl lt pv H H' → Gn g s t0 (n + 2000) H' → Q (.ref r) H'
theorem c_l_spaced (T : TSp P K w mg CT CB) : Says P w K mg base 4 "_law_spaced" ["_law_generator_here", "_law_pieces"] sp_spaced := by
  refine says T.d_l_spaced sc_l_spaced (fun vs H Q E h => ?_) (fun f cdv A outer s H vs Q E hr h => ?_)
  · obtain ⟨_, _, _, _, _, _, rfl, _⟩ := h; rfl
  refine ⟨_, (pss_cons (ps_asg (pe_tup (pa_cons pe_str (pa_cons (pe_lst pa_nil) (pa_cons pe_int (pa_cons pe_int pa_nil))))) (pg_tup rfl (pgs_cons (pg_name (i := 2) sc_l_spaced.nd rfl (.inl rfl)) (pgs_cons (pg_name (i := 3) sc_l_spaced.nd rfl (.inl rfl)) (pgs_cons (pg_name (i := 4) sc_l_spaced.nd rfl (.inl rfl)) (pgs_cons (pg_name (i := 5) sc_l_spaced.nd rfl (.inl rfl)) pgs_nil))))))
    (pss_cons (ps_for PassesOwn.never rfl (pi_enum (by rfl) T.b_enumerate (pa_cons (pv 1) pa_nil)) (pg_tup rfl (pgs_cons (pg_name (i := 6) sc_l_spaced.nd rfl (.inl rfl)) (pgs_cons (pg_name (i := 7) sc_l_spaced.nd rfl (.inl rfl)) pgs_nil)))
        (pss_cons (ps_set (i := 8) sc_l_spaced.nd rfl (.inl rfl) (pe_and (pe_cmpR op_gt (pv 6) pe_int (nomark _)) (pe_and (pe_s (c_l_is_lettered T.tp) hr (pa_cons (pe_ix ix_list (pv 1) (pe_op op_sub (pv 6) pe_int) (fun _ _ => rfl)) pa_nil)) (pe_one (pe_s (c_l_is_lettered T.tp) hr (pa_cons (pv 7) pa_nil))))))
        (pss_cons (ps_set (i := 9) sc_l_spaced.nd rfl (.inl rfl) (pe_s (c_l_blank T.tp) hr (pa_cons (pv 0) (pa_cons (pv 8) pa_nil))))
        (pss_cons (ps_for PassesOwn.never rfl (pi_str (pv 9)) (pg_name (i := 10) sc_l_spaced.nd rfl (.inl rfl))
            (pss_one (ps_asg (pe_ifExp (pt_cmpR op_eq (pv 10) pe_str (nomark _)) (pe_tup (pa_cons (pe_op op_add (pv 4) pe_int) (pa_cons pe_int pa_nil))) (pe_tup (pa_cons (pv 4) (pa_cons (pe_op op_add (pv 5) pe_int) pa_nil)))) (pg_tup rfl (pgs_cons (pg_name (i := 4) sc_l_spaced.nd rfl (.inl rfl)) (pgs_cons (pg_name (i := 5) sc_l_spaced.nd rfl (.inl rfl)) pgs_nil))))))
        (pss_cons (ps_expr (pe_bm PySem.F.plainAttrs_list PySem.F.slot_list_append PySem.F.type_list_append mt_append (pv 3) (pa_cons (pe_tup (pa_cons (pv 4) (pa_cons (pv 5) pa_nil))) pa_nil)))
        (pss_one (ps_par (i := 2) (j := 5) rfl sc_l_spaced.nd rfl rfl (by decide) rfl rfl (pa_cons (pe_op op_add_str (pe_op op_add_str (pv 2) (pv 9)) (pv 7)) (pa_cons (pe_op op_add (pv 5) (pe_callB call_len_str (by rfl) T.tp.tg.b_len (by decide +kernel) (pa_cons (pv 7) pa_nil))) pa_nil)) rfl)))))))
    (pss_cons (ps_set (i := 9) sc_l_spaced.nd rfl (.inl rfl) (pe_op op_add_str (pe_s (c_l_blank T.tp) hr (pa_cons (pv 0) (pa_cons pe_bl pa_nil))) (pe_ix ix_list (pe_lst (pa_cons pe_str (pa_cons pe_str (pa_cons pe_str (pa_cons pe_str pa_nil))))) (pe_s (c_l_random T.tp.tg) hr (pa_cons (pv 0) (pa_cons pe_int pa_nil))) (fun _ _ => rfl))))
    (pss_cons (ps_for PassesOwn.never rfl (pi_str (pv 9)) (pg_name (i := 10) sc_l_spaced.nd rfl (.inl rfl))
        (pss_one (ps_asg (pe_ifExp (pt_cmpR op_eq (pv 10) pe_str (nomark _)) (pe_tup (pa_cons (pe_op op_add (pv 4) pe_int) (pa_cons pe_int pa_nil))) (pe_tup (pa_cons (pv 4) (pa_cons (pe_op op_add (pv 5) pe_int) pa_nil)))) (pg_tup rfl (pgs_cons (pg_name (i := 4) sc_l_spaced.nd rfl (.inl rfl)) (pgs_cons (pg_name (i := 5) sc_l_spaced.nd rfl (.inl rfl)) pgs_nil))))))
    (pss_one (ps_ret (pe_lst (pa_cons (pe_op op_add_str (pv 2) (pv 9)) (pa_cons (pv 3) (pa_cons (pe_tup (pa_cons (pv 4) (pa_cons (pv 5) pa_nil))) pa_nil)))))))))), ?_⟩
  obtain ⟨g, pp, s0, t0, n, ps, rfl, G, h0, h1, npg, hpp, tok, l31, q⟩ := h
  dsimp only [tSeq]
  refine ⟨(show 0 ≤ sizeLine by decide), fun pl npl => ?_⟩
  have G1 : Gn g s0 t0 n (upd H pl (.lst [])) := G.new npl
  have nplg : pl ≠ g := G.some npl
  refine ⟨(show 4 ≤ sizeLine by decide), fun tn htn => ?_⟩
  refine ⟨tn, _, rfl, SqT.of upd_same, rfl, .str "", _, rfl, .ref pl, _, rfl, .int 1, _, rfl, .int 1, [], rfl, rfl, ?_⟩
  have hpp1 : (upd (upd H pl (.lst [])) tn (.tup [.str "", .ref pl, .int 1, .int 1])) pp = some (.lst (ps.map V.str)) := same_new htn _ _ (same_new npl _ _ hpp)
  have npp : pp ≠ pl := ne_of_none hpp npl
  refine ⟨_, rfl, pp, _, rfl, SqL.of hpp1, for_it (walk_enum (K := K) (a := pp) (xs := ps.map V.str)) (fun i σ H' => ∃ (x6 x7 x8 x9 x10 : Option V) (z : List Nat) (pls : List (Nat × Nat)) (l c : Nat) (pv : List V),
      σ = [some (.ref g), some (.ref pp), some (.str (zc z)), some (.ref pl), some (.int (l : Nat)), some (.int (c : Nat)), x6, x7, x8, x9, x10] ∧ Laid (ps.take i) z pls l c ∧ H' pl = some (.lst pv) ∧ DTs (hid [g, pl] H') pv (pls.map posD) ∧ (∀ c ∈ z, c < 0x110000) ∧ z.length ≤ 100 * i ∧ Keep [g] H H' ∧ Gn g s0 t0 (n + 20 * i) H')
    ⟨none, none, none, none, none, [], [], 1, 1, [], rfl, .nil, same_new htn _ _ upd_same, .nil, (fun c hc => by cases hc), Nat.zero_le _, (keep_new npl).trans (keep_new htn), G1.new htn⟩ ?_ ?_ ?_⟩
  · rintro i σ H' _ ⟨x6, x7, x8, x9, x10, z, pls, l, c, pv, rfl, _, _, _, _, _, k, _⟩
    exact SqL.of (k _ _ (nin1 npg) hpp)
  · rintro i x σ H2 H3 hi ⟨x6, x7, x8, x9, x10, z, pls, l, c, pv, rfl, la, hpl, dts, okz, lz, k, Gi⟩ ⟨tp, xi, xd, rfl, htp, rfl, ei, ed⟩
    rw [List.length_map] at hi
    have hni : xd = .str ps[i] := by
      have ed2 : (ps.map V.str)[i]? = some xd := ed
      rw [List.getElem?_map, List.getElem?_eq_getElem hi] at ed2
      exact (Option.some.inj ed2).symm
    subst hni
    obtain rfl : V.int (i : Nat) = xi := Option.some.inj ei
    have hgi : ps[i]? = some ps[i] := List.getElem?_eq_getElem hi
    have tki := tok _ (List.getElem_mem hi)
    refine ⟨tp, _, rfl, SqT.of upd_same, rfl, .int (i : Nat), _, rfl, .str ps[i], [], rfl, rfl, ?_⟩
    have Gt := Gi.new (o := .tup [.int (i : Nat), .str ps[i]]) htp
    have kt : Keep [g] H _ := k.trans (keep_new (o := .tup [.int (i : Nat), .str ps[i]]) htp)
    dsimp only [tSeq]
    have hle : ∀ p ∈ ps, 1 ≤ p.length ∧ p.length ≤ 5000 := by
      intro p hp
      have t := tok p hp
      obtain ⟨d, cs, e, _⟩ := t.ex
      have l1 : (cz p).length = p.length := cz_len p
      rw [e, List.length_cons] at l1
      have := t.len
      omega
    refine c_needed (ps := ps) hle hi (kt _ _ (nin1 npg) hpp) fun kk ek => ?_
    dsimp only [tSeq]
    refine ⟨_, rfl, _, rfl, g, kk, s0, t0, _, rfl, Gt, h0, by omega, fun b H4 hb G4 k4 => ?_⟩
    obtain ⟨bb, bl, bo, bn⟩ := bl_of hb
    have lb : (cz b).length ≤ 44 := by rw [cz_len]; exact bl
    have kH4 : Keep [g] H H4 := kt.trans k4
    have hpl4 : H4 pl = some (.lst pv) := k4 _ _ (nin1 nplg) (same_new htp _ _ hpl)
    refine nl_loop (K := K) fun y10 H5 s5 => ?_
    have hpl5 := s5 _ _ hpl4
    refine ⟨_, rfl, .inl ⟨rfl, _, SqL.of hpl5⟩, _, rfl, _, rfl, (show 2 ≤ sizeLine by decide), fun tn2 htn2 => ?_⟩
    have nt2 : tn2 ≠ pl := (ne_of_none hpl5 htn2).symm
    have G5 := G4.same s5
    have nt2g : tn2 ≠ g := G5.some htn2
    have lpv : pv.length ≤ 31 := by
      have h1 := dts.length
      have h2 := la.len
      rw [List.length_map] at h1
      rw [List.length_take] at h2
      omega
    refine ⟨pl, pv, _, rfl, rfl, same_new htn2 _ _ hpl5, small1000' (by omega), ?_⟩
    have tl := tki.len
    have e1 : zc z ++ b = zc (z ++ cz b) := zc_app z b
    have lz1 : (zc (z ++ cz b)).length ≤ 3200 := by
      rw [zc_len, List.length_append]
      omega
    have big : 5000 ≤ sizeLine := by decide
    refine ⟨_, rfl, _, rfl, _, _, rfl, rfl, ?_, _, rfl, _, _, rfl, rfl, ?_, ?_⟩
    · rw [zc_len, ← cz_len b]
      omega
    · rw [e1]
      omega
    refine ⟨_, rfl, _, rfl, _, rfl, by omega, _, _, rfl, rfl, _, _, rfl, ?_⟩
    have e2 : zc z ++ b ++ ps[i] = zc (z ++ cz b ++ cz ps[i]) := by rw [e1, zc_app]
    have K6 : Keep [g, pl] H2 (upd (upd H5 tn2 (.tup [.int ((adv (cz b) (l, c)).1 : Nat), .int ((adv (cz b) (l, c)).2 : Nat)])) pl (.lst (pv ++ [.ref tn2]))) :=
      (((same_keep (same_new htp)).trans (k4.mono (by simp))).trans ((same_keep s5).trans (same_keep (same_new htn2)))).trans (keep_upd (by simp))
    have lci : (cz ps[i]).length = ps[i].length := cz_len _
    refine ⟨some (.int (i : Nat)), some (.str ps[i]), some (.bl kk), some (.str b), y10, z ++ cz b ++ cz ps[i], pls ++ [adv (cz b) (l, c)], (adv (cz b) (l, c)).1, (adv (cz b) (l, c)).2 + ps[i].length, pv ++ [.ref tn2], ?_, ?_, upd_same, ?_, ?_, ?_, ?_, ?_⟩
    · rw [← e2]
      rfl
    · have et : ps.take (i + 1) = ps.take i ++ [ps[i]] := by rw [List.take_add_one, hgi]; rfl
      rw [et]
      exact .snoc la bb (fun h => bn (ek.trans h)) tki
    · rw [List.map_append]
      refine DTs.snoc (dts.same (Keep.hid K6) _) (.tup (hid2_at nt2g nt2 ((upd_ne nt2).trans upd_same)) (.cons (.int _) (.cons (.int _) .nil)))
    · intro x hx
      rcases List.mem_append.mp hx with hx | hx
      · rcases List.mem_append.mp hx with hx | hx
        · exact okz x hx
        · exact bo x hx
      · exact tki.okc x hx
    · rw [List.length_append, List.length_append]
      omega
    · intro a o na e
      have nap : a ≠ pl := ne_of_none e npl
      rw [upd_ne nap]
      exact same_new htn2 _ _ (s5 _ _ (kH4 _ _ na e))
    · exact ((G5.new htn2).off (Ne.symm nplg)).mono (by omega)
  · rintro σ H2 ⟨x6, x7, x8, x9, x10, z, pls, l, c, pv, rfl, la, hpl, dts, okz, lz, k, Gi⟩
    rw [List.length_map] at *
    rw [List.take_length] at la
    dsimp only [tSeq]
    refine ⟨_, rfl, g, false, s0, t0, _, rfl, Gi, h0, by omega, fun b H4 hb G4 k4 => ?_⟩
    obtain ⟨bb, bl, bo, _⟩ := bl_of (k := false) (hb.imp id id)
    have hpl4 : H4 pl = some (.lst pv) := k4 _ _ (nin1 nplg) hpl
    refine ⟨(show 4 ≤ sizeLine by decide), fun la4 nla4 => ?_⟩
    have nlag : la4 ≠ g := G4.some nla4
    refine ⟨_, rfl, draw (G4.new nla4) h0 (by omega) (by decide) (by decide) fun r H5 r0 r1 G5 k5 => ?_⟩
    obtain ⟨x, hx, er⟩ := atI_in (xs := ends4.map V.str) r0 r1
    obtain ⟨e4, he4, rfl⟩ := List.mem_map.mp hx
    have lpl : la4 ≠ pl := (ne_of_none hpl4 nla4).symm
    have hpl5 : H5 pl = some (.lst pv) := k5 _ _ (nin1 nplg) (same_new nla4 _ _ hpl4)
    refine ⟨la4, _, _, .str e4, rfl, rfl, SqL.of (k5 _ _ (nin1 nlag) upd_same), er, ?_⟩
    obtain ⟨le4, ok4⟩ := ends_len e4 he4
    have big : 5000 ≤ sizeLine := by decide
    refine ⟨_, _, rfl, rfl, by omega, ?_⟩
    refine nl_loop (K := K) fun y10 H6 s6 => ?_
    have tl := tail_of (l := l) (c := c) bb he4
    have ez : zc z ++ (b ++ e4) = zc (z ++ (cz b ++ cz e4)) := by rw [zc_app, cz_app]
    have lz5 : (zc (z ++ (cz b ++ cz e4))).length ≤ 5000 := by
      rw [zc_len, List.length_append, List.length_append, cz_len, cz_len]
      omega
    have eadv : adv (cz (b ++ e4)) (l, c) = adv (cz b ++ cz e4) (l, c) := by rw [cz_app]
    rw [eadv]
    refine ⟨_, rfl, _, rfl, _, _, rfl, rfl, ?_, ?_⟩
    · rw [zc_len, ← cz_len (b ++ e4), cz_app, List.length_append, cz_len, cz_len]
      omega
    refine ⟨_, rfl, _, rfl, _, rfl, (show 2 ≤ sizeLine by decide), fun lt nlt => ?_⟩
    refine ⟨(show 3 ≤ sizeLine by decide), fun rr nrr => ?_⟩
    have hpl6 := s6 _ _ hpl5
    have G6 := G5.same s6
    have npl2 : pl ≠ lt := ne_of_none hpl6 nlt
    have nlt2 : rr ≠ lt := (ne_of_none upd_same nrr).symm
    have K6 : Keep [g] H H6 := ((k.trans k4).trans ((keep_new nla4).trans k5)).trans (same_keep s6)
    have s7 : Same H6 (upd (upd H6 lt (.tup [.int ((adv (cz b ++ cz e4) (l, c)).1 : Nat), .int ((adv (cz b ++ cz e4) (l, c)).2 : Nat)])) rr (.lst [.str (zc z ++ (b ++ e4)), .ref pl, .ref lt])) := (same_new nlt).trans (same_new nrr)
    have Kh : Keep [g, pl] H2 H6 := (((k4.mono (by simp)).trans (same_keep (same_new nla4))).trans (k5.mono (by simp))).trans (same_keep s6)
    refine q z (cz b ++ cz e4) pls l c rr pl lt pv _ ⟨la, tl, ?_, s7 _ _ hpl6, dts.same (Keep.hid (Kh.trans (same_keep s7))) _, same_new nrr _ _ upd_same, ?_, lz5, ?_, npl, ?_, K6.trans (same_keep s7)⟩ ((G6.same s7).mono (by omega))
    · rw [← ez]
      exact upd_same
    · intro x hx
      have hx : x ∈ z ++ (cz b ++ cz e4) := hx
      rcases List.mem_append.mp hx with hx | hx
      · exact okz x hx
      · rcases List.mem_append.mp hx with hx | hx
        · exact bo x hx
        · exact of_decide_eq_true (List.all_eq_true.mp ok4 x hx)
    · exact K6.free (none_upd nrr) (nin1 (Gn.some (G6.new nlt) nrr))
    · exact K6.free nlt (nin1 (G6.some nlt))
end
end Cb
set_option Elab.async false
set_option linter.all false
set_option maxRecDepth 100000
set_option maxHeartbeats 4000000
namespace Cb
open PySem PySem.Spec PyProof.Rows L2 ExS
abbrev s_l_told : Stmt := topS 32
abbrev NTo : List Str := ["_law_text", "_law_error", "e"]
theorem sc_l_told : FnScope NTo ["_law_text"] (defScope s_l_told) := ⟨rfl, rfl, rfl, by decide +kernel, rfl, by decide +kernel, by decide +kernel⟩
structure TTo (P : Program) (K : PySem.W.Frag) (w : World) (mg : Str → Option Value) (CT CB : Addr) : Prop where
  tk : TTok P K w mg CT CB
  d_l_told : Has K mg "_law_told" s_l_told ["_law_text"]
  b_ve : mg "ValueError" = none
section
variable {P : Program} {w : World} {K : PySem.W.Frag} {mg : Str → Option Value} {base : Heap} {CT CB : Addr}
def sp_told : Sp := fun vs H Q _ => ∃ (z : Str) (ts0 : List Tok) (wd : Str) (l c : Nat), vs = [.str z] ∧ okc z ∧ z.length ≤ 5000 ∧ Lex (cz z) 1 1 (ts0 ++ [(("wrong", wd, l, c) : Tok)]) ∧
  ∀ (r t : Addr) (H' : Hp), Same H H' → H' r = some (.lst [.bl true, .ref t]) → H' t = some (.tup [.int (l : Nat), .int (c : Nat)]) → Q (.ref r) H'
theorem c_l_told (T : TTo P K w mg CT CB) : Says P w K mg base 7 "_law_told" ["_law_text"] sp_told := by
  refine says T.d_l_told sc_l_told (fun vs H Q E h => ?_) (fun f cdv A outer s H vs Q E hr h => ?_)
  · obtain ⟨_, _, _, _, _, rfl, _⟩ := h; rfl
  refine ⟨_, (pss_cons (ps_set (i := 1) sc_l_told.nd rfl (.inl rfl) pe_non)
    (pss_cons (ps_try_keep (i := 2) (Wout := fun _ _ _ _ => False) rfl rfl sc_l_told.nd rfl rfl ⟨rfl, by decide, Or.inl T.tk.te.gB⟩ takes0 rfl
        (fun W pn xe tk _ => pss_one (ps_ret (pe_sx (c_tokens T.tk).toX hr tk (pa_cons (pv 0) pa_nil))))
        (fun a oe cls d pn hz hf => pss_one (ps_set (i := 1) sc_l_told.nd rfl (.inl rfl) (pv 2))))
    (pss_one (ps_ret (pe_lst (pa_cons (pe_and (pe_callB call_isX (by rfl) T.tk.tl.tw.b_isinstance (by decide +kernel) (pa_cons (pv 1) (pa_cons (pe_glob (v := .ref CT) rfl T.tk.te.bT.gC rfl) pa_nil))) (pe_one (pe_callB call_isX (by rfl) T.tk.tl.tw.b_isinstance (by decide +kernel) (pa_cons (pv 1) (pa_cons (pe_bltn (v := .ty "ValueError") (by rfl) T.b_ve (by decide +kernel) rfl) pa_nil))))) (pa_cons (pe_kf (n := "value") (pv 1)) pa_nil))))))), ?_⟩
  obtain ⟨z, ts0, wd, l, c, rfl, ok, hz, hl, q⟩ := h
  refine ⟨_, rfl, ?_⟩
  refine ⟨z, ts0, _, rfl, ok, hz, hl, .inr ⟨rfl, fun t H1 s1 ht dd hdd => ?_⟩⟩
  have ec := T.tk.te.ec
  refine ⟨true, T.tk.te.exm, fun _ a na => ?_, fun z => nomatch z⟩
  refine ⟨_, rfl, ?_⟩
  have nda : dd ≠ a := ne_of_none upd_same na
  have s2 : Same H1 (upd H1 dd (.xd [("value", .ref t)])) := same_new hdd
  have s3 : Same H1 (upd (upd H1 dd (.xd [("value", .ref t)])) a (ExK (.ref CT) (some dd) a)) := s2.trans (same_new na)
  have ea : (upd (upd H1 dd (.xd [("value", .ref t)])) a (ExK (.ref CT) (some dd) a)) a = some (ExK (.ref CT) (some dd) a) := upd_same
  have ed : (upd (upd H1 dd (.xd [("value", .ref t)])) a (ExK (.ref CT) (some dd) a)) dd = some (.xd [("value", .ref t)]) := (upd_ne nda).trans upd_same
  refine ⟨_, rfl, .inr ⟨a, CT, dd, _, .ref CT, .ref CT, true, rfl, ea, ed, ec.1, .own CT, T.tk.te.own, ?_⟩⟩
  refine ⟨_, rfl, ?_⟩
  rw [if_pos rfl]
  refine ⟨_, rfl, .inr ⟨a, CT, dd, _, .ty "ValueError", .type "ValueError", true, rfl, ea, ed, ec.1, .ty _, T.tk.te.ve, ?_⟩⟩
  refine ⟨_, rfl, a, CT, dd, _, .ref t, rfl, ea, ec.2.1, ec.2.2, ed, by simp [List.lookup], ?_⟩
  refine ⟨(show 2 ≤ sizeLine by decide), fun r nr => ?_⟩
  exact q r t _ ((s1.trans s3).trans (same_new nr)) upd_same (same_new nr _ _ (s3 _ _ ht))
end
end Cb
set_option Elab.async false
set_option linter.all false
set_option maxRecDepth 100000
set_option maxHeartbeats 4000000
namespace Cb
open PySem PySem.Spec PyProof.Rows L2 ExS
/-! ### xs[a:c] = ys -/
def gSlice (to tl th : TE) : TG := fun v σ H Q => to σ H fun o H1 => tl σ H1 fun a H2 => th σ H2 fun c H3 => ∃ (l b : Addr) (xs ys : List V) (ia ic : Int), o = .ref l ∧ v = .ref b ∧ a = .int ia ∧ c = .int ic ∧
  H3 l = some (.lst xs) ∧ H3 b = some (.lst ys) ∧ l ≠ b ∧ 0 ≤ ia ∧ ia ≤ ic ∧ ic ≤ xs.length ∧ xs.length + ys.length ≤ sizeLine ∧ Q σ (upd H3 l (.lst (xs.take ia.toNat ++ ys ++ xs.drop ic.toNat)))
theorem pg_slice {X : Cx} {o lo hi : Expr} {pos p2 : Pos} {to tl th : TE} (ho : PE X o to) (hl : PE X lo tl) (hu : PE X hi th)
    (ha : ∀ v, assign (.Subscript o (.Slice (some lo) (some hi) none p2) pos) X.env v = (do
      let ov ← holding [v] (eval o X.env)
      let iv ← holding [v, ov] (eval (.Slice (some lo) (some hi) none p2) X.env)
      standAt pos
      holding [v, ov, iv] (setItem ov iv v)
      release [iv, v, ov] []) := by intro _; rfl) : PG X (.Subscript o (.Slice (some lo) (some hi) none p2) pos) (gSlice to tl th) := by
  refine ⟨fun pins s σ H v u Q I r h => ?_⟩
  rw [ha]
  refine wpAny_bind (wpAny_holding (thn (ho.run pins s σ H _ I h) fun ov s1 ⟨x, H1, I1, r1, q1⟩ => ?_))
  refine wpAny_bind (wpAny_holding (wpAny_Slice ?_))
  rw [evalPart_some]
  refine thn (hl.run pins s1 σ H1 _ I1 q1) fun vl s2 ⟨a, H2, I2, ra, q2⟩ => ?_
  rw [evalPart_some]
  refine thn (hu.run pins s2 σ H2 _ I2 q2) fun vu s3 ⟨c, H3, I3, rc, q3⟩ => ?_
  rw [evalPart_none]
  refine wpAny_pure ?_
  obtain ⟨l, b, xs, ys, ia, ic, rfl, rfl, rfl, rfl, h1, h2, h3, h4, h5, h6, h7, q⟩ := q3
  have I4 : Inv X pins σ H3 { s3 with heap := s3.heap.push { cls := .type "slice", data := .fields #[vl, vu, .none] } } := I3.kept (t' := s3.toks) fun b ob q => Heap.get?_push_of_some _ q
  refine wpAny_bind (wpAny_standAt ?_)
  refine wpAny_bind (wpAny_holding ?_)
  cases r1
  cases r
  refine set_slice I4 h1 h2 h3 (Heap.IsSliceOf.new ..) ra rc h4 h5 h6 h7 fun s' I' => ?_
  exact wpAny_release ⟨σ, _, I', q⟩
end Cb
set_option Elab.async false
set_option linter.all false
set_option maxRecDepth 100000
set_option maxHeartbeats 4000000
namespace Cb
open PySem PySem.Spec PyProof.Rows L2 ExS
/-! ### tokens as data: what their text is -/
theorem fits_str {ws : List Nat} {z : Str} (h : okc z) (l : z.length ≤ 40) : Fits ws (.str z) := by
  have h40 := bulk_40 ws
  refine ⟨?_, by simp [PyData.depth], ?_, by simp [PyData.intsShort], by simp [PyData.showable], by simp [PyData.hasDict]⟩
  · simp only [Cb.good, okc_iff.mpr h, Bool.true_and]
    exact decide_eq_true (Nat.le_trans l (by decide))
  · simp only [PyData.weight]
    exact Nat.le_trans l h40
theorem fits_nat {ws : List Nat} {n : Nat} (h : n < 10 ^ 6) : Fits ws (.int (n : Nat)) := by
  have h40 := bulk_40 ws
  have lg : (n : Int).natAbs.log2 < 20 := PySem.Flt.log2_lt_of (by decide) (show (n : Int).natAbs < 2 ^ 20 by omega)
  refine ⟨rfl, by simp [PyData.depth], ?_, ?_, ?_, by simp [PyData.hasDict]⟩
  · simp only [PyData.weight]
    refine Nat.le_trans ?_ h40
    split <;> omega
  · simp only [PyData.intsShort]
    refine decide_eq_true ?_
    have e : cz (Str.ofString (toString ((n : Nat) : Int))) = TL.numL n := PySem.W.KIN.signs_num n
    have l : (Str.ofString (toString ((n : Nat) : Int))).length ≤ 13 := by
      rw [← cz_len, e]
      exact Nat.le_trans (TL.numL_len (k := 6) (by decide) h) (by decide)
    exact l
  · simp only [PyData.showable]
    exact decide_eq_true (by omega)
theorem fits_tup {w : Nat} {ws : List Nat} {ds : List PyData} (all : ∀ d ∈ ds, Fits ws d) (h : ds.length ≤ w) (w1 : w < 1000) : Fits (w :: ws) (.tuple ds) := by
  refine ⟨?_, ?_, ?_, ?_, ?_, ?_⟩
  · simp only [Cb.good, goods_of fun d hd => (all d hd).good, Bool.and_true]
    exact decide_eq_true (by omega)
  · have := depthAll_le fun d hd => (all d hd).dep
    simp only [PyData.depth, List.length_cons]
    omega
  · have h3 := weightAll_le fun d hd => (all d hd).wgt
    have h4 : ds.length * (bulk ws + 1) ≤ w * (bulk ws + 1) := Nat.mul_le_mul_right _ h
    simp only [PyData.weight, bulk]
    omega
  · simp only [PyData.intsShort]
    exact shortAll_of fun d hd => (all d hd).short
  · simp only [PyData.showable]
    exact showAll_of fun d hd => (all d hd).shw
  · simp only [PyData.hasDict]
    exact nodAll_of fun d hd => (all d hd).nod
theorem fits_lst {w : Nat} {ws : List Nat} {ds : List PyData} (all : ∀ d ∈ ds, Fits ws d) (h : ds.length ≤ w) (w1 : w < 1000) : Fits (w :: ws) (.list ds) := by
  refine ⟨?_, ?_, ?_, ?_, ?_, ?_⟩
  · simp only [Cb.good, goods_of fun d hd => (all d hd).good, Bool.and_true]
    exact decide_eq_true (by omega)
  · have := depthAll_le fun d hd => (all d hd).dep
    simp only [PyData.depth, List.length_cons]
    omega
  · have h3 := weightAll_le fun d hd => (all d hd).wgt
    have h4 : ds.length * (bulk ws + 1) ≤ w * (bulk ws + 1) := Nat.mul_le_mul_right _ h
    simp only [PyData.weight, bulk]
    omega
  · simp only [PyData.intsShort]
    exact shortAll_of fun d hd => (all d hd).short
  · simp only [PyData.showable]
    exact showAll_of fun d hd => (all d hd).shw
  · simp only [PyData.hasDict]
    exact nodAll_of fun d hd => (all d hd).nod
theorem adv_le : ∀ (cs : List Nat) (q : Nat × Nat) (M : Nat), q.1 ≤ M → q.2 ≤ M → 1 ≤ M → (adv cs q).1 ≤ M + cs.length ∧ (adv cs q).2 ≤ M + cs.length
  | [], q, M, h1, h2, _ => ⟨h1, h2⟩
  | d :: cs, q, M, h1, h2, h3 => by
    have key : ∀ q' : Nat × Nat, q'.1 ≤ M + 1 → q'.2 ≤ M + 1 → (adv cs q').1 ≤ M + (cs.length + 1) ∧ (adv cs q').2 ≤ M + (cs.length + 1) := by
      intro q' a b
      have := adv_le cs q' (M + 1) a b (by omega)
      omega
    rw [List.length_cons]
    unfold adv
    by_cases h : d = 10
    · rw [if_pos h]
      exact key _ (by show q.1 + 1 ≤ M + 1; omega) (by show 1 ≤ M + 1; omega)
    · rw [if_neg h]
      exact key _ (by show q.1 ≤ M + 1; omega) (by show q.2 + 1 ≤ M + 1; omega)
theorem Laid.bound {ps : List Str} {z : List Nat} {pls : List (Nat × Nat)} {l c : Nat} (h : Laid ps z pls l c) : (∀ q ∈ pls, q.1 ≤ 1 + z.length ∧ q.2 ≤ 1 + z.length) ∧ l ≤ 1 + z.length ∧ c ≤ 1 + z.length := by
  induction h with
  | nil => exact ⟨fun q hq => (by cases hq), Nat.le_refl _, Nat.le_refl _⟩
  | @snoc ps z pls l c b p h1 hb hn ht ih =>
    obtain ⟨i1, i2, i3⟩ := ih
    have h3 := adv_le b (l, c) (1 + z.length) i2 i3 (by omega)
    have hp : (cz p).length = p.length := cz_len p
    rw [List.length_append, List.length_append]
    refine ⟨fun q hq => ?_, by omega, by omega⟩
    rcases List.mem_append.mp hq with hq | hq
    · have := i1 q hq
      omega
    · rw [List.mem_singleton.mp hq]
      omega
theorem sort_in (p : Str) : sortOf p = "word" ∨ sortOf p = "sign" ∨ sortOf p = "number" ∨ sortOf p = "wrong" := by
  unfold sortOf
  repeat' split
  all_goals simp
theorem sort_fits {ws : List Nat} (p : Str) : Fits ws (.str (sortOf p)) := by
  rcases sort_in p with e | e | e | e <;> rw [e] <;> exact fits_str (okc_string _) (by decide)
theorem tokD_fits {ws : List Nat} {p : Str} {q : Nat × Nat} (t : TokOk p) (h : q.1 < 10 ^ 6 ∧ q.2 < 10 ^ 6) : Fits (4 :: ws) (tokD (sortOf p, p, q.1, q.2)) := by
  refine fits_tup (fun d hd => ?_) (Nat.le_refl _) (by decide)
  simp only [List.mem_cons, List.not_mem_nil, or_false] at hd
  rcases hd with rfl | rfl | rfl | rfl
  · exact sort_fits p
  · exact fits_str t.okc t.len
  · exact fits_nat h.1
  · exact fits_nat h.2
theorem endD_fits {ws : List Nat} {q : Nat × Nat} (h : q.1 < 10 ^ 6 ∧ q.2 < 10 ^ 6) : Fits (4 :: ws) (tokD ("end", "", q.1, q.2)) := by
  refine fits_tup (fun d hd => ?_) (Nat.le_refl _) (by decide)
  simp only [List.mem_cons, List.not_mem_nil, or_false] at hd
  rcases hd with rfl | rfl | rfl | rfl
  · exact fits_str (okc_string _) (by decide)
  · exact fits_str (okc_string _) (by decide)
  · exact fits_nat h.1
  · exact fits_nat h.2
/-- the whole list, with its end -/
theorem toks_fits {ps : List Str} {pls : List (Nat × Nat)} {e : Nat × Nat} (hl : pls.length = ps.length) (l31 : ps.length ≤ 31) (tok : ∀ p ∈ ps, TokOk p) (hp : ∀ q ∈ pls, q.1 < 10 ^ 6 ∧ q.2 < 10 ^ 6) (he : e.1 < 10 ^ 6 ∧ e.2 < 10 ^ 6) :
    Fits [40, 4] (.list ((placed ps pls ++ [(("end", "", e.1, e.2) : Tok)]).map tokD)) := by
  refine fits_lst (fun d hd => ?_) ?_ (by decide)
  · obtain ⟨t, ht, rfl⟩ := List.mem_map.mp hd
    rcases List.mem_append.mp ht with ht | ht
    · obtain ⟨x, hx, rfl⟩ := List.mem_map.mp ht
      exact tokD_fits (tok _ (List.of_mem_zip hx).1) (hp _ (List.of_mem_zip hx).2)
    · rw [List.mem_singleton.mp ht]
      exact endD_fits he
  · rw [List.length_map, List.length_append]
    unfold placed
    rw [List.length_map, List.length_zip]
    show min ps.length pls.length + 1 ≤ 40
    omega
end Cb
set_option Elab.async false
set_option linter.all false
set_option maxRecDepth 100000
set_option maxHeartbeats 8000000
namespace Cb
open PySem PySem.Spec PyProof.Rows L2 ExS
theorem eqv_ok {d : PyData} (h : OKd d) : PyData.eqv d d = true := SeqAt.eqv_refl d (good_can d h.good)
theorem neN {x : V} {A B : Prop} (b : B) : if (!decide (x = x)) = true then A else B := by
  rw [decide_eq_true rfl]
  exact iteF b
theorem neD {d : PyData} {A B : Prop} (h : OKd d) (b : B) : if (!PyData.eqv d d) = true then A else B := by
  rw [eqv_ok h]
  exact iteF b
theorem dp_ok {K : PySem.W.Frag} {H : Hp} {v : V} {d : PyData} (h : DT H v d) (o : OKd d) : Dp K H v d := h.dp (good_plain d o.good)
theorem cut_to {xs : List V} {i : Nat} (h : i ≤ xs.length) : cutV xs none (some (i : Int)) = xs.take i := by
  unfold cutV
  rw [show HT.sIx xs.length 0 none = 0 from HT.sIx_none _ _, HT.sIx_nat _ _ i, Nat.min_eq_left h]
  rfl
theorem cut_from {xs : List V} {i : Nat} (h : i ≤ xs.length) : cutV xs (some (i : Int)) none = xs.drop i := by
  unfold cutV
  rw [HT.sIx_nat _ _ i, show HT.sIx xs.length xs.length none = xs.length from HT.sIx_none _ _, Nat.min_eq_left h]
  exact List.take_of_length_le (Nat.le_of_eq (by rw [List.length_drop]))
/-! ### those that are no tokens -/
def tokB (p : Str) : Bool := (match cz p with
  | [] => false
  | d :: cs => !blankC d && decide (d ≠ 35) && ((!letd d && decide (cs = [])) || (letd d && (d :: cs).all (rowC (lowC d))))) && decide (p.length ≤ 40) && (cz p).all (fun c => decide (c < 0x110000))
theorem tokB_ok {p : Str} (h : tokB p = true) : TokOk p := by
  unfold tokB at h
  simp only [Bool.and_eq_true, decide_eq_true_eq] at h
  obtain ⟨⟨h1, h2⟩, h3⟩ := h
  cases e : cz p with
  | nil => rw [e] at h1; simp at h1
  | cons d cs =>
    rw [e] at h1
    simp only [Bool.and_eq_true, Bool.or_eq_true, Bool.not_eq_true', decide_eq_true_eq] at h1
    obtain ⟨⟨a, b⟩, c⟩ := h1
    refine ⟨⟨d, cs, e, a, b, ?_⟩, h2, fun x hx => of_decide_eq_true (List.all_eq_true.mp h3 x hx)⟩
    rcases c with ⟨c1, c2⟩ | ⟨c1, c2⟩
    · exact .inl ⟨c1, c2⟩
    · exact .inr ⟨c1, List.all_eq_true.mp c2⟩
def odds : List Str := ["_", "A", "$", "007", "10000000000000000000", "xxxxxxxxxxxxxxxxxxxxxxxxxxxxxxx", ".", "'", "^", "!", "00", "\"", "?", ">"]
theorem odds_B : ∀ p ∈ odds, tokB p = true ∧ sortOf p = "wrong" := by decide +kernel
/-! ### a written list of tokens -/
def tTok (t : Tok) : TE := tTup (tCons (tC (.str t.1)) (tCons (tC (.str t.2.1)) (tCons (tC (.int (t.2.2.1 : Nat))) (tCons (tC (.int (t.2.2.2 : Nat))) tNil))))
def tToks : List Tok → TA
  | [] => tNil
  | t :: ts => tCons (tTok t) (tToks ts)
theorem toks_lit : ∀ (ts : List Tok) {σ : L2.St} {H : Hp} {Q : List V → Hp → Prop}, (∀ vs H', Same H H' → DTs H' vs (ts.map tokD) → Q vs H') → tToks ts σ H Q
  | [], σ, H, Q, h => h [] H (Same.refl _) .nil
  | t :: ts, σ, H, Q, h => by
    refine ⟨(show 4 ≤ sizeLine by decide), fun a na => ?_⟩
    refine toks_lit ts fun vs H' s' d => ?_
    exact h _ H' ((same_new na).trans s') (.cons (.tup (s' _ _ upd_same) (.cons (.str _) (.cons (.str _) (.cons (.int _) (.cons (.int _) .nil))))) d)
section
variable {K : PySem.W.Frag} {CT : Addr}
/-- a fixed text asked, against what is written -/
theorem fixed {z : Str} {ts0 : List Tok} {x : Tok} {σ : L2.St} {H : Hp} {Q : VK} (hl : lexF 100 (cz z) 1 1 = some (ts0 ++ [x])) (hx : x.1 ≠ "wrong") (ok : okc z) (len : z.length ≤ 5000) (good : OKd (.list ((ts0 ++ [x]).map tokD)))
    (q : ∀ H', Same H H' → Q (.bl false) H') :
    tOp (rNeD K) (tCall (calmSp (sp_tokens CT)) [] E0 (tCons (tC (.str z)) tNil)) (tLst (tToks (ts0 ++ [x]))) σ H Q := by
  refine ⟨z, ts0, x, rfl, ok, len, lexF_lex _ _ _ _ _ hl, .inl ⟨hx, fun p acc H1 s1 np hp d1 => ?_⟩⟩
  refine toks_lit _ fun vs H2 s2 d2 => ⟨?_, fun l nl => ?_⟩
  · have := d2.length
    have h1 := d1.length
    have g := good.good
    simp only [Cb.good, Bool.and_eq_true, decide_eq_true_eq] at g
    rw [this]
    exact Nat.le_of_lt (small1000' (by omega))
  · have t1 : DT (upd H2 l (.lst vs)) (.ref p) (.list ((ts0 ++ [x]).map tokD)) := .lst (same_new nl _ _ (s2 _ _ hp)) (d1.same (hid_same.trans (s2.trans (same_new nl))) _)
    have t2 : DT (upd H2 l (.lst vs)) (.ref l) (.list ((ts0 ++ [x]).map tokD)) := .lst upd_same (d2.same (same_new nl) _)
    refine ⟨_, _, dp_ok t1 good, dp_ok t2 good, good.shaped, good.shaped, ?_⟩
    rw [eqv_ok good]
    exact q _ (s1.trans (s2.trans (same_new nl)))
end
end Cb
set_option Elab.async false
set_option linter.all false
set_option maxRecDepth 100000
set_option maxHeartbeats 8000000
namespace Cb
open PySem PySem.Spec PyProof.Rows L2 ExS
section
variable {K : PySem.W.Frag} {CT : Addr} {σ : L2.St} {H : Hp} {Q : VK}
def fA : Tok := ("word", "x", 1, 1)
def fB : Tok := ("end", "", 3, 1)
def gA : Tok := ("number", "5", 1, 1)
def gB : Tok := ("end", "", 1, 4)
def hB : Tok := ("end", "", 1, 1)
def iA : Tok := ("word", "a1", 1, 1)
def iB : Tok := ("number", "5", 2, 2)
def iC : Tok := ("word", "a", 2, 3)
def iD : Tok := ("end", "", 2, 4)
theorem fx1 (q : ∀ H', Same H H' → Q (.bl false) H') : tOp (rNeD K) (tCall (calmSp (sp_tokens CT)) [] E0 (tCons (tC (.str "x # y\n \n")) tNil)) (tLst (tToks [fA, fB])) σ H Q :=
  fixed (ts0 := [fA]) (x := fB) (by decide +kernel) (show ¬ (("end" : Str)) = "wrong" by decide) (okc_string _) (by decide) ⟨by decide +kernel, by decide +kernel⟩ q
theorem fx2 (q : ∀ H', Same H H' → Q (.bl false) H') : tOp (rNeD K) (tCall (calmSp (sp_tokens CT)) [] E0 (tCons (tC (.str "5  ")) tNil)) (tLst (tToks [gA, gB])) σ H Q :=
  fixed (ts0 := [gA]) (x := gB) (by decide +kernel) (show ¬ (("end" : Str)) = "wrong" by decide) (okc_string _) (by decide) ⟨by decide +kernel, by decide +kernel⟩ q
theorem fx3 (q : ∀ H', Same H H' → Q (.bl false) H') : tOp (rNeD K) (tCall (calmSp (sp_tokens CT)) [] E0 (tCons (tC (.str "")) tNil)) (tLst (tToks [hB])) σ H Q :=
  fixed (ts0 := []) (x := hB) (by decide +kernel) (show ¬ (("end" : Str)) = "wrong" by decide) (okc_string _) (by decide) ⟨by decide +kernel, by decide +kernel⟩ q
theorem fx4 (q : ∀ H', Same H H' → Q (.bl false) H') : tOp (rNeD K) (tCall (calmSp (sp_tokens CT)) [] E0 (tCons (tC (.str "a1 # b\n 5a")) tNil)) (tLst (tToks [iA, iB, iC, iD])) σ H Q :=
  fixed (ts0 := [iA, iB, iC]) (x := iD) (by decide +kernel) (show ¬ (("end" : Str)) = "wrong" by decide) (okc_string _) (by decide) ⟨by decide +kernel, by decide +kernel⟩ q
def wB : PyData := .list [.bool true, .tuple [.int 2, .int 3]]
theorem fx5 (q : ∀ H', Q (.bl true) H') : tOp (rEqD K) (tCall sp_told [] E0 (tCons (tC (.str "ab\n  Cd")) tNil)) (tLst (tCons (tC (.bl true)) (tCons (tTup (tCons (tC (.int 2)) (tCons (tC (.int 3)) tNil))) tNil))) σ H Q := by
  have good : OKd wB := ⟨by decide +kernel, by decide +kernel⟩
  refine ⟨"ab\n  Cd", [("word", "ab", 1, 1)], "C", 2, 3, rfl, okc_string _, by decide, lexF_lex 100 _ _ _ _ (by decide +kernel), fun r t H1 s1 hr ht => ?_⟩
  refine ⟨(show 2 ≤ sizeLine by decide), fun a na => ⟨(show 2 ≤ sizeLine by decide), fun l nl => ?_⟩⟩
  have s2 := (same_new (o := .tup [.int 2, .int 3]) na).trans (same_new (o := .lst [.bl true, .ref a]) nl)
  have t1 : DT (upd (upd H1 a (.tup [.int 2, .int 3])) l (.lst [.bl true, .ref a])) (.ref r) wB := .lst (s2 _ _ hr) (.cons (.bl _) (.cons (.tup (s2 _ _ ht) (.cons (.int 2) (.cons (.int 3) .nil))) .nil))
  have t2 : DT (upd (upd H1 a (.tup [.int 2, .int 3])) l (.lst [.bl true, .ref a])) (.ref l) wB := .lst upd_same (.cons (.bl _) (.cons (.tup (same_new nl _ _ upd_same) (.cons (.int 2) (.cons (.int 3) .nil))) .nil))
  refine ⟨_, _, dp_ok t1 good, dp_ok t2 good, good.shaped, good.shaped, ?_⟩
  rw [eqv_ok good]
  exact q _
end
end Cb
set_option Elab.async false
set_option linter.all false
set_option maxRecDepth 100000
set_option maxHeartbeats 16000000
namespace Cb
open PySem PySem.Spec PyProof.Rows L2 ExS
abbrev s_law : Stmt := topS 33
abbrev NLw : List Str := ["_law_script", "_law_generator_here", "_law_pieces", "_law_text", "_law_places", "_law_last", "_law_due", "_law_told_here", "_law_at", "_law_odd", "_law_piece", "_law_place"]
theorem sc_law : FnScope NLw ["_law_script"] (defScope s_law) := ⟨rfl, rfl, rfl, by decide +kernel, rfl, by decide +kernel, by decide +kernel⟩
structure TLaw (P : Program) (K : PySem.W.Frag) (w : World) (mg : Str → Option Value) (CT CB : Addr) : Prop where
  ts : TSp P K w mg CT CB
  tt : TTo P K w mg CT CB
  b_zip : mg "zip" = none
  b_repr : mg "repr" = none
theorem pos_dt {H : Hp} {v : V} {q : Nat × Nat} (h : DT H v (posD q)) : ∃ a, H a = some (.tup [.int (q.1 : Nat), .int (q.2 : Nat)]) ∧ v = .ref a := by
  unfold posD at h
  cases h with
  | @tup a xs _ e r =>
    cases r with
    | cons r1 r =>
    cases r with
    | cons r2 r =>
    cases r with
    | nil =>
    cases r1
    cases r2
    exact ⟨a, e, rfl⟩
theorem tok_len {p : Str} (t : TokOk p) : 1 ≤ p.length ∧ p.length ≤ 5000 := by
  obtain ⟨d, cs, e, _⟩ := t.ex
  have l1 : (cz p).length = p.length := cz_len p
  rw [e, List.length_cons] at l1
  have := t.len
  omega
theorem placed_take {ps : List Str} {pls : List (Nat × Nat)} {i : Nat} {p : Str} {q : Nat × Nat} (hl : pls.length = ps.length) (hp : ps[i]? = some p) (hq : pls[i]? = some q) : (placed ps pls).take (i + 1) = (placed ps pls).take i ++ [(sortOf p, p, q.1, q.2)] := by
  have e : (placed ps pls)[i]? = some (sortOf p, p, q.1, q.2) := by
    unfold placed
    rw [List.getElem?_map, (List.getElem?_zip_eq_some (z := (p, q))).mpr ⟨hp, hq⟩]
    rfl
  rw [List.take_add_one, e]
  rfl
section
variable {P : Program} {w : World} {K : PySem.W.Frag} {mg : Str → Option Value} {base : Heap} {CT CB : Addr}
def sp_law (K : PySem.W.Frag) : Sp := fun vs H Q _ => ∃ (p : Addr) (ns : List Int), vs = [.ref p] ∧ SqL K H p (ns.map V.int) ∧ ∀ H', Q (.bl true) H'
theorem c_law (T : TLaw P K w mg CT CB) {fl : Addr} {fdl : FuncData} (F : Fun K "law" "law" s_law fl fdl) : FnG P w K mg base CX0 12 fl fdl ["_law_script"] (sp_law K) := by
  refine fnG F sc_law (fun vs H Q E h => ?_) (fun f cdv A outer s H vs Q E ga hr h => ?_)
  · obtain ⟨_, _, rfl, _⟩ := h; rfl
  refine ⟨_, (pss_cons (ps_set (i := 1) sc_law.nd rfl (.inl rfl) (pe_s (c_l_generator T.ts.tp.tg) hr (pa_cons (pv 0) (pa_cons pe_int pa_nil))))
    (pss_cons (ps_set (i := 2) sc_law.nd rfl (.inl rfl) (pe_s (c_l_drawn_pieces T.ts.tp) hr (pa_cons (pv 1) pa_nil)))
    (pss_cons (ps_asg (pe_s (c_l_spaced T.ts) hr (pa_cons (pv 1) (pa_cons (pv 2) pa_nil))) (pg_lst rfl (pgs_cons (pg_name (i := 3) sc_law.nd rfl (.inl rfl)) (pgs_cons (pg_name (i := 4) sc_law.nd rfl (.inl rfl)) (pgs_cons (pg_name (i := 5) sc_law.nd rfl (.inl rfl)) pgs_nil)))))
    (pss_cons (ps_set (i := 6) sc_law.nd rfl (.inl rfl) (pe_op op_cat (pe_lc (own := [("_law_piece", 10), ("_law_place", 11)]) (g := gTup K 2 (gCons (gName 10) (gCons (gName 11) gNil))) (tt := tYes) rfl sc_law.nd (pi_zip (by rfl) T.b_zip (pa_cons (pv 2) (pa_cons (pv 4) pa_nil))) (blkOk_by (N := NLw) (sc := defScope s_law) (own := [("_law_piece", 10), ("_law_place", 11)]) (by decide +kernel)) (fun _ _ _ _ _ => pg_tup rfl ((pgs_cons (pg_name (i := 10) sc_law.nd rfl (.inl rfl)) (pgs_cons (pg_name (i := 11) sc_law.nd rfl (.inl rfl)) pgs_nil)))) (fun _ _ _ _ _ => pts_nil) (fun _ _ _ _ _ => (pe_tup (pa_cons (pe_s (c_l_sort T.ts.tp) hr (pa_cons (pv 10) pa_nil)) (pa_cons (pv 10) (pa_cons (pe_ix (r := rIxT K) ix_tup (pv 11) pe_int (fun _ _ => rfl)) (pa_cons (pe_ix (r := rIxT K) ix_tup (pv 11) pe_int (fun _ _ => rfl)) pa_nil))))))) (pe_lst (pa_cons (pe_tup (pa_cons pe_str (pa_cons pe_str (pa_cons (pe_ix ix_tup (pv 5) pe_int (fun _ _ => rfl)) (pa_cons (pe_ix ix_tup (pv 5) pe_int (fun _ _ => rfl)) pa_nil))))) pa_nil))))
    (pss_cons (ps_set (i := 7) sc_law.nd rfl (.inl rfl) (pe_s (c_tokens T.tt.tk).toX.calm hr (pa_cons (pv 3) pa_nil)))
    (pss_cons (ps_if (pt_cmpR op_ne (pe_callB (call_repr ga) (by rfl) T.b_repr (by decide +kernel) (pa_cons (pv 7) pa_nil)) (pe_callB (call_repr ga) (by rfl) T.b_repr (by decide +kernel) (pa_cons (pv 6) pa_nil)) (nomark _))
        (pss_one (ps_ret pe_bl))
        pss_nil)
    (pss_cons (ps_asg (pe_lst (pa_cons pe_non (pa_cons pe_non pa_nil))) (pg_slice (pv 7) pe_int pe_int))
    (pss_cons (ps_if (pt_cmpR op_ne (pe_callB (call_repr ga) (by rfl) T.b_repr (by decide +kernel) (pa_cons (pe_k0 (c_tokens T.tt.tk).calmK hr (pk_cons (pv 3) pk_nil)) pa_nil)) (pe_callB (call_repr ga) (by rfl) T.b_repr (by decide +kernel) (pa_cons (pv 6) pa_nil)) (nomark _))
        (pss_one (ps_ret pe_bl))
        pss_nil)
    (pss_cons (ps_set (i := 8) sc_law.nd rfl (.inl rfl) (pe_s (c_l_random T.ts.tp.tg) hr (pa_cons (pv 1) (pa_cons (pe_op op_add (pe_callB call_len_seq (by rfl) T.ts.tp.tg.b_len (by decide +kernel) (pa_cons (pv 2) pa_nil)) pe_int) pa_nil))))
    (pss_cons (ps_set (i := 9) sc_law.nd rfl (.inl rfl) (pe_ix ix_list (pe_lst (pa_cons pe_str (pa_cons pe_str (pa_cons pe_str (pa_cons pe_str (pa_cons (pe_op op_add_str pe_str (pe_op op_mul_strA pe_str pe_int)) (pa_cons (pe_op op_mul_strA pe_str pe_int) (pa_cons pe_str (pa_cons pe_str (pa_cons pe_str (pa_cons pe_str (pa_cons pe_str (pa_cons pe_str (pa_cons pe_str (pa_cons pe_str pa_nil))))))))))))))) (pe_s (c_l_random T.ts.tp.tg) hr (pa_cons (pv 1) (pa_cons pe_int pa_nil))) (fun _ _ => rfl)))
    (pss_cons (ps_asg (pe_s (c_l_spaced T.ts) hr (pa_cons (pv 1) (pa_cons (pe_op op_cat (pe_op op_cat (pe_slice sl_list (pv 2) po_none (po_some (pv 8))) (pe_lst (pa_cons (pv 9) pa_nil))) (pe_slice sl_list (pv 2) (po_some (pv 8)) po_none)) pa_nil))) (pg_lst rfl (pgs_cons (pg_name (i := 3) sc_law.nd rfl (.inl rfl)) (pgs_cons (pg_name (i := 4) sc_law.nd rfl (.inl rfl)) (pgs_cons (pg_name (i := 5) sc_law.nd rfl (.inl rfl)) pgs_nil)))))
    (pss_cons (ps_if (pt_cmpR op_ne (pe_callB (call_repr ga) (by rfl) T.b_repr (by decide +kernel) (pa_cons (pe_s (c_l_told T.tt) hr (pa_cons (pv 3) pa_nil)) pa_nil)) (pe_callB (call_repr ga) (by rfl) T.b_repr (by decide +kernel) (pa_cons (pe_lst (pa_cons pe_bl (pa_cons (pe_ix ix_list (pv 4) (pv 8) (fun _ _ => rfl)) pa_nil))) pa_nil)) (nomark _))
        (pss_one (ps_ret pe_bl))
        pss_nil)
    (pss_cons (ps_if (PW.pt (pw_or (pt_cmpR (op_neD hr.units) (pe_s (c_tokens T.tt.tk).toX.calm hr (pa_cons pe_str pa_nil)) (pe_lst (pa_cons (pe_tup (pa_cons pe_str (pa_cons pe_str (pa_cons pe_int (pa_cons pe_int pa_nil))))) (pa_cons (pe_tup (pa_cons pe_str (pa_cons pe_str (pa_cons pe_int (pa_cons pe_int pa_nil))))) pa_nil))) (nomark _)) (pw_or1 (pt_cmpR (op_neD hr.units) (pe_s (c_tokens T.tt.tk).toX.calm hr (pa_cons pe_str pa_nil)) (pe_lst (pa_cons (pe_tup (pa_cons pe_str (pa_cons pe_str (pa_cons pe_int (pa_cons pe_int pa_nil))))) (pa_cons (pe_tup (pa_cons pe_str (pa_cons pe_str (pa_cons pe_int (pa_cons pe_int pa_nil))))) pa_nil))) (nomark _)))))
        (pss_one (ps_ret pe_bl))
        pss_nil)
    (pss_cons (ps_if (PW.pt (pw_or (pt_cmpR (op_neD hr.units) (pe_s (c_tokens T.tt.tk).toX.calm hr (pa_cons pe_str pa_nil)) (pe_lst (pa_cons (pe_tup (pa_cons pe_str (pa_cons pe_str (pa_cons pe_int (pa_cons pe_int pa_nil))))) pa_nil)) (nomark _)) (pw_or1 (pt_cmpR (op_neD hr.units) (pe_s (c_tokens T.tt.tk).toX.calm hr (pa_cons pe_str pa_nil)) (pe_lst (pa_cons (pe_tup (pa_cons pe_str (pa_cons pe_str (pa_cons pe_int (pa_cons pe_int pa_nil))))) (pa_cons (pe_tup (pa_cons pe_str (pa_cons pe_str (pa_cons pe_int (pa_cons pe_int pa_nil))))) (pa_cons (pe_tup (pa_cons pe_str (pa_cons pe_str (pa_cons pe_int (pa_cons pe_int pa_nil))))) (pa_cons (pe_tup (pa_cons pe_str (pa_cons pe_str (pa_cons pe_int (pa_cons pe_int pa_nil))))) pa_nil))))) (nomark _)))))
        (pss_one (ps_ret pe_bl))
        pss_nil)
    (pss_one (ps_ret (pe_cmpR (op_eqD hr.units) (pe_s (c_l_told T.tt) hr (pa_cons pe_str pa_nil)) (pe_lst (pa_cons pe_bl (pa_cons (pe_tup (pa_cons pe_int (pa_cons pe_int pa_nil))) pa_nil))) (nomark _)))))))))))))))))), ?_⟩
  obtain ⟨p, ns, rfl, hS, q⟩ := h
  have hu := hr.un
  have hu' : (A.deeper (envOfC "law" (defScope s_law) s.heap.objs.size f cdv)).units + 200 < cLine := by omega
  refine ⟨_, rfl, p, ns, 0, rfl, hS, by decide, by decide, fun g a s0 H2 hg s2 hg2 => ?_⟩
  have G2 : Gn g s0 0 0 H2 := ⟨a, 1000 * 0, hg2, by decide, by decide⟩
  refine ⟨_, rfl, g, s0, 0, 0, rfl, G2, by decide, by decide, fun pp ps H3 npg hpp0 pc l29 hpp G3 k3 => ?_⟩
  have tok : ∀ p ∈ ps, TokOk p := fun p hp => (pc p hp).1
  refine ⟨_, rfl, _, rfl, g, pp, s0, 0, 0 + 2000, ps, rfl, G3, by decide, by decide, npg, hpp, tok, by omega, fun z t pls l c r pl lt pv H4 so G4 => ?_⟩
  refine ⟨r, _, rfl, SqL.of so.hr, rfl, _, _, rfl, _, _, rfl, _, [], rfl, rfl, ?_⟩
  have hpp4 := so.keep _ _ (nin1 npg) hpp
  have npl : pl ≠ g := Gn.some G3 so.np
  have nlt : lt ≠ g := Gn.some G3 so.nt
  have lpl := so.laid.len
  have lpv : pv.length = ps.length := by
    have := so.dp.length
    rw [List.length_map] at this
    omega
  refine ⟨_, rfl, _, rfl, pp, pl, _, _, rfl, SqL.of hpp4, SqL.of so.hp, fun D nD => ?_⟩
  have nDg : D ≠ g := Gn.some G4 nD
  refine lc_it (walk_zip (K := K) (n := ps.length) (xs := ps.map V.str) (ys := pv) (by rw [List.length_map]; omega)) (fun i H' => Same H4 H' ∧ ∃ acc, H' D = some (.lst acc) ∧ DTs (hid [g, D] H') acc (((placed ps pls).take i).map tokD)) ⟨same_new nD, [], upd_same, .nil⟩ (fun i H' _ y => ⟨SqL.of (y.1 _ _ hpp4), SqL.of (y.1 _ _ so.hp)⟩) ?_ ?_
  · rintro i x H5 H6 hi ⟨s5, acc, hD, da⟩ ⟨tp, xi, xd, rfl, htp, rfl, ei, ed⟩
    have hx : xi = .str ps[i] := by
      have ei2 : (ps.map V.str)[i]? = some xi := ei
      rw [List.getElem?_map, List.getElem?_eq_getElem hi] at ei2
      exact (Option.some.inj ei2).symm
    subst hx
    have hpi : pls[i]? = some (pls[i]'(by omega)) := List.getElem?_eq_getElem (by omega)
    have dq := so.dp.get (j := i) (v := xd) ed (d := posD (pls[i]'(by omega))) (by rw [List.getElem?_map, hpi]; rfl)
    obtain ⟨qa, qe, rfl⟩ := pos_dt dq
    obtain ⟨nqg, nqp, hq⟩ := hid2_out qe
    obtain ⟨p1, p2⟩ := tok_len (tok _ (List.getElem_mem hi))
    have hps : ps[i]? = some ps[i] := List.getElem?_eq_getElem hi
    refine ⟨tp, _, rfl, SqT.of upd_same, rfl, .str ps[i], _, rfl, .ref qa, [], rfl, rfl, ?_⟩
    refine ⟨rfl, ?_⟩
    refine ⟨_, rfl, ps[i], rfl, p1, p2, fun H7 s7 => ?_⟩
    have s6 : Same H5 H7 := (same_new htp).trans s7
    have hq7 := s6 _ _ (s5 _ _ hq)
    refine ⟨_, rfl, _, rfl, qa, _, 0, _, rfl, rfl, SqT.of hq7, rfl, _, rfl, qa, _, 1, _, rfl, rfl, SqT.of hq7, rfl, (show 4 ≤ sizeLine by decide), fun tn htn => ?_⟩
    have ntD : tn ≠ D := (ne_of_none (s6 _ _ hD) htn).symm
    have ntg : tn ≠ g := Gn.some ((G4.same s5).same s6) htn
    refine ⟨acc, same_new htn _ _ (s6 _ _ hD), ?_, ?_, _, upd_same, ?_⟩
    · have := da.length
      rw [List.length_map, List.length_take] at this
      exact small1000' (by omega)
    · intro b o e
      rw [upd_ne (ne_of_none e nD)]
      exact same_new htn _ _ (s6 _ _ (s5 _ _ e))
    · have K6 : Keep [g, D] H5 (upd (upd H7 tn (.tup [.str (sortP ps[i]), .str ps[i], .int ((pls[i]'(by omega)).1 : Nat), .int ((pls[i]'(by omega)).2 : Nat)])) D (.lst (acc ++ [.ref tn]))) := ((same_keep s6).trans (same_keep (same_new htn))).trans (keep_upd (by simp))
      rw [placed_take lpl hps hpi, List.map_append, (pc _ (List.getElem_mem hi)).2.1]
      exact DTs.snoc (da.same (Keep.hid K6) _) (.tup (hid2_at ntg ntD ((upd_ne ntD).trans upd_same)) (.cons (.str _) (.cons (.str _) (.cons (.int _) (.cons (.int _) .nil)))))
  · rintro H5 ⟨s5, acc, hD, da⟩
    have ht5 := s5 _ _ so.ht
    have lac := da.length
    rw [List.length_map, List.length_take] at lac
    have lpp : (placed ps pls).length = ps.length := by
      unfold placed
      rw [List.length_map, List.length_zip]
      omega
    have da : DTs (hid [g, D] H5) acc ((placed ps pls).map tokD) := by rw [← lpp, List.take_length] at da; exact da
    refine ⟨_, rfl, lt, _, 0, _, rfl, rfl, SqT.of ht5, rfl, _, rfl, lt, _, 1, _, rfl, rfl, SqT.of ht5, rfl, (show 4 ≤ sizeLine by decide), fun te nte => ⟨(show 1 ≤ sizeLine by decide), fun le nle => ?_⟩⟩
    have s6 := (same_new (o := .tup [.str "end", .str "", .int ((adv t (l, c)).1 : Nat), .int ((adv t (l, c)).2 : Nat)]) nte).trans (same_new (o := .lst [.ref te]) nle)
    refine ⟨D, le, acc, [.ref te], rfl, rfl, s6 _ _ hD, upd_same, ?_, fun dd ndd => ?_⟩
    · show acc.length + 1 ≤ sizeLine
      exact small1000' (by omega)
    have s7 := s6.trans (same_new (o := .lst (acc ++ [.ref te])) ndd)
    have G5 := G4.same s5
    have nteg : te ≠ g := G5.some nte
    have nddg : dd ≠ g := (G5.same s6).some ndd
    generalize hdue : (placed ps pls ++ [(("end", "", (adv t (l, c)).1, (adv t (l, c)).2) : Tok)]) = due
    have d7 : DTs (hid [g] (upd (upd (upd H5 te (.tup [.str "end", .str "", .int ((adv t (l, c)).1 : Nat), .int ((adv t (l, c)).2 : Nat)])) le (.lst [.ref te])) dd (.lst (acc ++ [.ref te])))) (acc ++ [.ref te]) (due.map tokD) := by
      rw [← hdue, List.map_append]
      exact DTs.snoc (da.same ((hid_mono (by simp)).trans (Keep.hid (same_keep s7))) _) (.tup (hid_at (nin1 nteg) (same_new ndd _ _ (same_new nle _ _ upd_same))) (.cons (.str _) (.cons (.str _) (.cons (.int _) (.cons (.int _) .nil)))))
    have hdd : (upd (upd (upd H5 te (.tup [.str "end", .str "", .int ((adv t (l, c)).1 : Nat), .int ((adv t (l, c)).2 : Nat)])) le (.lst [.ref te])) dd (.lst (acc ++ [.ref te]))) dd = some (.lst (acc ++ [.ref te])) := upd_same
    have s47 := s5.trans s7
    generalize upd (upd (upd H5 te (.tup [.str "end", .str "", .int ((adv t (l, c)).1 : Nat), .int ((adv t (l, c)).2 : Nat)])) le (.lst [.ref te])) dd (.lst (acc ++ [.ref te])) = H7 at d7 hdd s47 ⊢
    have ddT : ∀ H', Same H7 H' → DT H' (.ref dd) (.list (due.map tokD)) := fun H' sx => .lst (sx _ _ hdd) (d7.same (hid_same.trans sx) _)
    obtain ⟨b1, b2, b3⟩ := so.laid.bound
    have lz : z.length + t.length ≤ 5000 := by
      have := so.len
      rw [zc_len, List.length_append] at this
      exact this
    have bd := adv_le t (l, c) (1 + z.length) b2 b3 (by omega)
    have ft : Fits [40, 4] (.list (due.map tokD)) := by
      rw [← hdue]
      exact toks_fits lpl (by omega) tok (fun q hq => by have := b1 q hq; omega) (by omega)
    have lex : Lex (cz (zc (z ++ t))) 1 1 (placed ps pls ++ [(("end", "", (adv t (l, c)).1, (adv t (l, c)).2) : Tok)]) := so.laid.lex (fun p hp => (pc p hp).2.2) (fun _ => so.tail.last) so.tail.lex
    refine ⟨_, rfl, zc (z ++ t), placed ps pls, _, rfl, so.okc, so.len, lex, .inl ⟨(show ¬ (("end" : Str)) = "wrong" by decide), ?_⟩⟩
    rw [hdue]
    intro tk ac2 H8 s8 ntk htk d8
    have b2020 : bulk [40, 4] ≤ 2 ^ 20 := by decide
    refine ⟨_, rfl, r_fits (.lst htk (d8.same hid_same _)) ft (by decide) b2020 hu' ⟨_, rfl, r_fits (ddT _ s8) ft (by decide) b2020 hu' ⟨rfl, _, rfl, neN ?_⟩⟩⟩
    have ldue : ac2.length = ps.length + 1 := by
      have := d8.length
      rw [List.length_map, ← hdue, List.length_append, lpp] at this
      exact this
    refine ⟨(show 2 ≤ sizeLine by decide), fun nn nnn => ?_⟩
    have ntn : tk ≠ nn := ne_of_none htk nnn
    refine ⟨_, rfl, tk, nn, ac2, [.non, .non], 0, 1, rfl, rfl, rfl, rfl, same_new nnn _ _ htk, upd_same, ntn, by decide, by decide, by omega, ?_, ?_⟩
    · show ac2.length + 2 ≤ sizeLine
      exact small1000' (by omega)
    have s9 : Same H7 (upd (upd H8 nn (.lst [.non, .non])) tk (.lst (ac2.take (Int.toNat 0) ++ [.non, .non] ++ ac2.drop (Int.toNat 1)))) := fun b o e => by
      rw [upd_ne (ne_of_none e ntk)]
      exact same_new nnn _ _ (s8 _ _ e)
    generalize upd (upd H8 nn (.lst [.non, .non])) tk (.lst (ac2.take (Int.toNat 0) ++ [.non, .non] ++ ac2.drop (Int.toNat 1))) = H9 at s9 ⊢
    refine ⟨_, rfl, zc (z ++ t), placed ps pls, _, rfl, so.okc, so.len, lex, .inl ⟨(show ¬ (("end" : Str)) = "wrong" by decide), ?_⟩⟩
    rw [hdue]
    intro tk2 ac3 H10 s10 ntk2 htk2 d10
    refine r_fits (.lst htk2 (d10.same hid_same _)) ft (by decide) b2020 hu' ⟨_, rfl, r_fits (ddT _ (s9.trans s10)) ft (by decide) b2020 hu' ⟨rfl, _, rfl, neN ?_⟩⟩
    have s410 := s47.trans (s9.trans s10)
    have G10 : Gn g s0 0 (0 + 2000 + 2000) H10 := G4.same s410
    have hpp10 := s410 _ _ hpp4
    refine ⟨_, rfl, _, rfl, pp, _, rfl, .inl (SqL.of hpp10), _, _, rfl, rfl, ?_⟩
    have el : (((ps.map V.str).length : Nat) : Int) = (ps.length : Int) := by rw [List.length_map]
    refine draw G10 (by decide) (by decide) (by omega) (Nat.lt_of_lt_of_le (show ((((ps.map V.str).length : Nat) : Int) + 1).natAbs < 2 ^ 11 by omega) (Nat.pow_le_pow_right (by decide) (by decide))) fun at_ H11 at0 at1 G11 k11 => ?_
    obtain ⟨n, rfl⟩ : ∃ n : Nat, at_ = (n : Int) := ⟨at_.toNat, (Int.toNat_of_nonneg at0).symm⟩
    have ln : n ≤ ps.length := by omega
    have hpp11 := k11 _ _ (nin1 npg) hpp10
    -- the one that is no token
    refine ⟨"0", 19, rfl, rfl, by decide, by decide, rfl, by decide +kernel, ?_⟩
    rw [show manyS "0" (Int.toNat 19) = "0000000000000000000" by decide +kernel]
    refine ⟨_, _, rfl, rfl, (show 1 + 19 ≤ sizeLine by decide), ?_⟩
    refine ⟨"x", 31, rfl, rfl, by decide, by decide, rfl, by decide +kernel, ?_⟩
    rw [show manyS "x" (Int.toNat 31) = "xxxxxxxxxxxxxxxxxxxxxxxxxxxxxxx" by decide +kernel, show ("1" : Str) ++ ("0000000000000000000" : Str) = "10000000000000000000" by decide +kernel]
    refine ⟨(show 14 ≤ sizeLine by decide), fun ol nol => ?_⟩
    have nolg : ol ≠ g := G11.some nol
    refine ⟨_, rfl, draw (G11.new nol) (by decide) (by decide) (by decide) (by decide) fun ro H12 ro0 ro1 G12 k12 => ?_⟩
    obtain ⟨x, hx, er⟩ := atI_in (xs := odds.map V.str) ro0 ro1
    obtain ⟨od, hod, rfl⟩ := List.mem_map.mp hx
    obtain ⟨odB, odw⟩ := odds_B od hod
    have odt := tokB_ok odB
    refine ⟨ol, _, _, .str od, rfl, rfl, SqL.of (k12 _ _ (nin1 nolg) upd_same), er, ?_⟩
    have hpp12 := k12 _ _ (nin1 npg) (same_new nol _ _ hpp11)
    refine ⟨_, rfl, _, rfl, _, rfl, _, rfl, pp, _, rfl, SqL.of hpp12, fun sa nsa => ⟨_, rfl, (show 1 ≤ sizeLine by decide), fun sb nsb => ?_⟩⟩
    have lm : (ps.map V.str).length = ps.length := List.length_map ..
    rw [cut_to (show n ≤ (ps.map V.str).length by omega)] at nsb ⊢
    have sb_sa : sa ≠ sb := ne_of_none upd_same nsb
    refine ⟨sa, sb, _, [.str od], rfl, rfl, same_new nsb _ _ upd_same, upd_same, ?_, fun sc nsc => ?_⟩
    · rw [List.length_take, List.length_singleton]
      exact Nat.le_of_lt (small1000' (by omega))
    have t3 : Same H12 (upd (upd (upd H12 sa (.lst ((ps.map V.str).take n))) sb (.lst [.str od])) sc (.lst ((ps.map V.str).take n ++ [.str od]))) := ((same_new nsa).trans (same_new nsb)).trans (same_new nsc)
    refine ⟨_, rfl, _, rfl, _, rfl, pp, _, rfl, SqL.of (t3 _ _ hpp12), fun sd nsd => ?_⟩
    rw [cut_from (show n ≤ (ps.map V.str).length by omega)]
    have t4 := t3.trans (same_new (o := .lst ((ps.map V.str).drop n)) nsd)
    refine ⟨sc, sd, _, _, rfl, rfl, same_new nsd _ _ upd_same, upd_same, ?_, fun se nse => ?_⟩
    · rw [List.length_append, List.length_take, List.length_drop, List.length_singleton]
      exact Nat.le_of_lt (small1000' (by omega))
    have t5 := t4.trans (same_new (o := .lst ((ps.map V.str).take n ++ [.str od] ++ (ps.map V.str).drop n)) nse)
    have eps : (ps.map V.str).take n ++ [.str od] ++ (ps.map V.str).drop n = (ps.take n ++ od :: ps.drop n).map V.str := by
      rw [List.map_append, List.map_cons, List.map_take, List.map_drop, List.append_assoc]
      rfl
    rw [eps] at t5 ⊢
    have G13 := G12.same t5
    have nseg : se ≠ g := Gn.some (G12.same t4) nse
    have l2 : (ps.take n ++ od :: ps.drop n).length = ps.length + 1 := by
      rw [List.length_append, List.length_cons, List.length_take, List.length_drop]
      omega
    have tok2 : ∀ p ∈ ps.take n ++ od :: ps.drop n, TokOk p := by
      intro p hp
      rcases List.mem_append.mp hp with hp | hp
      · exact tok p (List.mem_of_mem_take hp)
      · rcases List.mem_cons.mp hp with rfl | hp
        · exact odt
        · exact tok p (List.mem_of_mem_drop hp)
    refine ⟨g, se, s0, 0, _, _, rfl, G13, by decide, by decide, nseg, upd_same, tok2, by omega, fun z2 t2 pls2 l2' c2 r2 pl2 lt2 pv2 H14 so2 G14 => ?_⟩
    refine ⟨r2, _, rfl, SqL.of so2.hr, rfl, _, _, rfl, _, _, rfl, _, [], rfl, rfl, ?_⟩
    have lps2 := so2.laid.len
    obtain ⟨qq, hqq, lex2⟩ := so2.laid.lexw (rest := t2) (fun _ => so2.tail.last) (A := ps.take n) (B := ps.drop n) (w := od) rfl (fun p hp => (pc p (List.mem_of_mem_take hp)).2.2) odw
    have ltk : (ps.take n).length = n := by
      rw [List.length_take]
      omega
    rw [ltk] at hqq
    have hqv : pv2[n]? = some (pv2[n]'(by have := so2.dp.length; rw [List.length_map] at this; omega)) := List.getElem?_eq_getElem _
    have dqq := so2.dp.get hqv (show (pls2.map posD)[n]? = some (posD qq) by rw [List.getElem?_map, hqq]; rfl)
    obtain ⟨e1, e2, e3⟩ := so2.laid.bound
    have lz2 : z2.length + t2.length ≤ 5000 := by
      have := so2.len
      rw [zc_len, List.length_append] at this
      exact this
    have bq := e1 qq (List.mem_of_getElem? hqq)
    have fw : Fits [2, 2] (.list [.bool true, posD qq]) := by
      refine fits_lst (fun d hd => ?_) (Nat.le_refl 2) (by decide)
      rcases List.mem_cons.mp hd with rfl | hd
      · exact fits_of [2] (by decide) _ (by decide +kernel)
      · rw [List.mem_singleton.mp hd]
        refine fits_tup (fun d hd => ?_) (Nat.le_refl 2) (by decide)
        rcases List.mem_cons.mp hd with rfl | hd
        · exact fits_nat (by omega)
        · rw [List.mem_singleton.mp hd]
          exact fits_nat (by omega)
    have b22 : bulk [2, 2] ≤ 2 ^ 20 := by decide
    refine ⟨_, rfl, zc (z2 ++ t2), _, od, qq.1, qq.2, rfl, so2.okc, so2.len, lex2, fun rr tt H15 s15 hrr htt => ?_⟩
    refine r_fits (d := .list [.bool true, posD qq]) (.lst hrr (.cons (.bl _) (.cons (.tup htt (.cons (.int _) (.cons (.int _) .nil))) .nil))) fw (by decide) b22 hu' ?_
    refine ⟨_, rfl, _, rfl, pl2, _, _, _, rfl, rfl, SqL.of (s15 _ _ so2.hp), atI_nat hqv, (show 2 ≤ sizeLine by decide), fun ll nll => ?_⟩
    refine r_fits (d := .list [.bool true, posD qq]) (.lst upd_same (.cons (.bl _) (.cons (dqq.same ((hid_same.trans s15).trans (same_new nll)) _) .nil))) fw (by decide) b22 hu' ?_
    refine ⟨rfl, _, rfl, neN ?_⟩
    refine fx1 (K := K) fun H20 _ => ⟨_, rfl, ?_⟩
    refine fx2 (K := K) fun H21 _ => ⟨_, rfl, ?_⟩
    refine fx3 (K := K) fun H22 _ => ⟨_, rfl, ?_⟩
    refine fx4 (K := K) fun H23 _ => ⟨_, rfl, ?_⟩
    exact fx5 (K := K) fun H24 => q _
end
end Cb
set_option Elab.async false
set_option linter.all false
set_option maxRecDepth 100000
set_option maxHeartbeats 4000000
namespace Cb
open PySem PySem.Spec PyProof.Rows L2
/-! ### a written dict of texts -/
inductive KeysAre : List DictEntry → List Str → Prop
  | nil : KeysAre [] []
  | cons {e : DictEntry} {t : PySem.Tok} {z : Str} {es : List DictEntry} {zs : List Str} : e.key = .str z t → e.refKey = false → KeysAre es zs → KeysAre (e :: es) (z :: zs)
theorem KeysAre.none {es : List DictEntry} {zs : List Str} (k : KeysAre es zs) : es.any (·.refKey) = false := by
  induction k with
  | nil => rfl
  | cons _ h2 _ ih => rw [List.any_cons, h2, ih]; rfl
theorem KeysAre.find {es : List DictEntry} {zs : List Str} (k : KeysAre es zs) (y : Str) : (es.find? (·.key.isStr y)).isSome = decide (y ∈ zs) := by
  induction k with
  | nil => rfl
  | @cons e t z es zs h1 h2 _ ih =>
    rw [List.find?_cons]
    have e1 : e.key.isStr y = (z == y) := by rw [h1]; rfl
    rw [e1]
    cases h : z == y with
    | true =>
      have := eq_of_beq h
      subst this
      simp
    | false =>
      have ne : ¬ y = z := fun x => by
        rw [x] at h
        simp at h
      rw [ih]
      simp [ne]
theorem num_mk {K : PySem.W.Frag} {mg : Str → Option Value} {h : Heap} {x : Str} {i : Int} {t : PySem.Tok} (X : K.In h) (G : h.Ns mainGlobals mg) (e : PySem.W.nsIn K mainGlobals x = some (some (.int i t))) : ∃ t : PySem.Tok, mg x = some (.int i t) := ⟨t, PySem.W.mg_of X G e⟩
theorem res_mk {K : PySem.W.Frag} {d : Addr} {c : Value} {od : Option Addr} {es : Array DictEntry} {n : Nat} {sl : Array (Option Value)} (l : K.lookup d = some ⟨c, od, .dict es n, sl⟩) (k : KeysAre es.toList resL) : ∀ z : Str, ∃ r : Option Value, PySem.W.nsIn K d z = some r ∧ r.isSome = isRes z := by
  intro z
  have f := k.find z
  have a := k.none
  unfold PySem.W.nsIn isRes
  rw [l]
  show ∃ r, (match es.toList.find? (·.key.isStr z) with | some e => some (some e.val) | none => if es.toList.any (·.refKey) then none else some none) = some r ∧ _
  cases h : es.toList.find? (·.key.isStr z) with
  | some e =>
    rw [h] at f
    exact ⟨_, rfl, f⟩
  | none =>
    rw [h] at f
    refine ⟨none, ?_, f⟩
    show (if es.toList.any (·.refKey) then none else some none) = some none
    rw [a]
    rfl
theorem str_mk {K : PySem.W.Frag} {mg : Str → Option Value} {h : Heap} {x z : Str} {t : PySem.Tok} (X : K.In h) (G : h.Ns mainGlobals mg) (e : PySem.W.nsIn K mainGlobals x = some (some (.str z t))) : ∃ t : PySem.Tok, mg x = some (.str z t) := ⟨t, PySem.W.mg_of X G e⟩
theorem kit_V {K : PySem.W.Frag} {t : Addr} (h : PySem.W.subIn K (.ref t) (.type "ValueError") = some true) : PySem.W.kitOne K (.ref t) (.type "ValueError") = some true := by
  have e : PySem.W.kitMeta "ValueError" = true := by decide +kernel
  show (if (Value.ref t == Value.type "ValueError") = true then some true else (if PySem.W.kitMeta "ValueError" = true then PySem.W.subIn K (.ref t) (.type "ValueError") else none)) = some true
  rw [if_neg (by intro z; cases z), if_pos e]
  exact h
section
open ExS
variable {w : World} {K : PySem.W.Frag} {mg : Str → Option Value} {CT CB : Addr}
theorem mk_law {P : Program} (tl : TLex K w mg) (te : TErr P K mg CT CB) (e1 : Has2 K mg "tokens" s_tokens ["text"] ["text"] (fun l => l)) (tg : TGen K mg)
    (l1 : Has K mg "_law_pick" s_l_pick ["_law_generator_here", "_law_things"]) (l2 : Has K mg "_law_reserved" s_l_reserved []) (l3 : Has K mg "_law_blank" s_l_blank ["_law_generator_here", "_law_least"]) (l4 : Has K mg "_law_is_lettered" s_l_is_lettered ["_law_piece"])
    (l5 : Has K mg "_law_sort" s_l_sort ["_law_piece"]) (l6 : Has K mg "_law_drawn_pieces" s_l_drawn_pieces ["_law_generator_here"]) (l7 : Has K mg "_law_spaced" s_l_spaced ["_law_generator_here", "_law_pieces"]) (en : mg "enumerate" = none)
    (l8 : Has K mg "_law_told" s_l_told ["_law_text"]) (bv : mg "ValueError" = none) (bz : mg "zip" = none) (br : mg "repr" = none) : TLaw P K w mg CT CB :=
  ⟨⟨⟨⟨tl, te, e1⟩, tg, l1, l2, l3, l4, l5, l6⟩, l7, en⟩, ⟨⟨tl, te, e1⟩, l8, bv⟩, bz, br⟩
theorem ends {l : PySem.W.OpenLaw} {fa : Addr} (hfa : mg "law" = some (.ref fa)) (T : TLaw l.prog K w mg CT CB) (dl : Has K mg "law" s_law ["_law_script"]) :
    ∃ fd : FuncData, (∀ (s : Shared) (u : Value), BindsTo s fd ⟨[u], []⟩ [("_law_script", u)]) ∧ ∀ base : Heap, K.In base → base.Ns mainGlobals mg → FnG l.prog w K mg base CX0 12 fa fd ["_law_script"] (sp_law K) := by
  obtain ⟨f, fd, F, hm, _⟩ := dl
  obtain rfl : f = fa := Value.ref.inj (Option.some.inj (hm.symm.trans hfa))
  refine ⟨fd, ?_, fun base _ _ => c_law T F⟩
  obtain ⟨oc, od, kV, doc, pm, an, cdv, ct, osl, rfl, lk, hcd⟩ := F.ex
  exact fun s u => .of_eq rfl
end
end Cb
set_option Elab.async false
set_option maxRecDepth 100000
open PySem PySem.W PyProof.Rows
set_option maxHeartbeats 0 in
theorem PySem.Challenge.cw_cellbills_k08_whole_tokens_holds : PySem.Challenge.rw_cellbills_k08_whole_tokens.Holds := by
  w_on; o_law; k_head; (case hw => w_witness2)
  k_fill
  refine Cb.walk_g (l := PySem.Challenge.rw_cellbills_k08_whole_tokens) (n := 63) (k := 12) (x := "_law_script") (sp := fun K => Cb.sp_law K) rfl (by decide) rfl ⟨rfl, by decide, by decide⟩ (fun w h Y => PySem.W.kIn_of Y) ?F ?pr
  case pr => exact fun K H a ns _ _ hS => ⟨a, ns, rfl, hS, fun _ => rfl⟩
  case F =>
    intro w mg fa h KX G hmg
    refine' Cb.ends hmg ?T ?dl
    case dl =>
      refine' Cb.has KX G ?a ?l ?c ?k ?b
      (case a => k_is); (case l => k_is); (case c => k_is); (case k => k_is); (case b => exact fun _ _ _ _ _ _ us hl => match us, hl with | [_], _ => rfl)
    case T =>
      refine' Cb.mk_law ?tl ?te ?e1 ?tg ?l1 ?l2 ?l3 ?l4 ?l5 ?l6 ?l7 ?en ?l8 ?bv ?bz ?br
      case e1 =>
        refine' Cb.has2 KX G ?a ?l ?c ?k ?b (Cb.kb1 ?kb)
        (case a => k_is); (case l => k_is); (case c => k_is); (case k => k_is); (case b => exact fun _ _ _ _ _ _ us hl => match us, hl with | [_], _ => rfl); (case kb => exact fun _ => rfl)
      case l1 =>
        refine' Cb.has KX G ?a ?l ?c ?k ?b
        (case a => k_is); (case l => k_is); (case c => k_is); (case k => k_is); (case b => exact fun _ _ _ _ _ _ us hl => match us, hl with | [_, _], _ => rfl)
      case l2 =>
        refine' Cb.has KX G ?a ?l ?c ?k ?b
        (case a => k_is); (case l => k_is); (case c => k_is); (case k => k_is); (case b => exact fun _ _ _ _ _ _ us hl => match us, hl with | [], _ => rfl)
      case l3 =>
        refine' Cb.has KX G ?a ?l ?c ?k ?b
        (case a => k_is); (case l => k_is); (case c => k_is); (case k => k_is); (case b => exact fun _ _ _ _ _ _ us hl => match us, hl with | [_, _], _ => rfl)
      case l4 =>
        refine' Cb.has KX G ?a ?l ?c ?k ?b
        (case a => k_is); (case l => k_is); (case c => k_is); (case k => k_is); (case b => exact fun _ _ _ _ _ _ us hl => match us, hl with | [_], _ => rfl)
      case l5 =>
        refine' Cb.has KX G ?a ?l ?c ?k ?b
        (case a => k_is); (case l => k_is); (case c => k_is); (case k => k_is); (case b => exact fun _ _ _ _ _ _ us hl => match us, hl with | [_], _ => rfl)
      case l6 =>
        refine' Cb.has KX G ?a ?l ?c ?k ?b
        (case a => k_is); (case l => k_is); (case c => k_is); (case k => k_is); (case b => exact fun _ _ _ _ _ _ us hl => match us, hl with | [_], _ => rfl)
      case l7 =>
        refine' Cb.has KX G ?a ?l ?c ?k ?b
        (case a => k_is); (case l => k_is); (case c => k_is); (case k => k_is); (case b => exact fun _ _ _ _ _ _ us hl => match us, hl with | [_, _], _ => rfl)
      case l8 =>
        refine' Cb.has KX G ?a ?l ?c ?k ?b
        (case a => k_is); (case l => k_is); (case c => k_is); (case k => k_is); (case b => exact fun _ _ _ _ _ _ us hl => match us, hl with | [_], _ => rfl)
      case en => refine' PySem.W.mg_none_of KX G ?z; (case z => k_is)
      case bv => refine' PySem.W.mg_none_of KX G ?z; (case z => k_is)
      case bz => refine' PySem.W.mg_none_of KX G ?z; (case z => k_is)
      case br => refine' PySem.W.mg_none_of KX G ?z; (case z => k_is)
      case te =>
        refine' ⟨?bT, ?gB, ?exm, ?ec, ?own, ?vv⟩
        case bT =>
          refine' Cb.bill_mk KX G ?a ?cls ?ve ?iC ?tf ?lI ?coI ?lcI ?vI2 ?feI ?ceI ?clC ?iB ?lB ?coB ?lcB ?vB2 ?feB ?ceB ?clD ?tp ?sB ?sC ?iV ?sV ?fn ?mv ?md ?sa ?nV ?ln ?ln2 ?hI ?hB ?lT ?bI ?bI0 ?bIk ?bB ?ns ?su ?kC ?exC ?tyC
          case a => k_is
          case cls => k_is
          case ve => decide +kernel
          case iC => k_is
          case tf => k_is
          case lI => k_is
          case coI => k_is
          case lcI => k_is
          case vI2 => exact rfl
          case feI => decide +kernel
          case ceI => k_is
          case clC => k_is
          case iB => ks_is
          case lB => k_is
          case coB => k_is
          case lcB => k_is
          case vB2 => exact rfl
          case feB => decide +kernel
          case ceB => k_is
          case clD => k_is
          case tp => k_is
          case sB => k_is
          case sC => k_is
          case iV => ks_is
          case sV => k_is
          case fn => k_is
          case mv => decide +kernel
          case md => exact rfl
          case sa => k_is
          case nV => k_is
          case ln => exact fun _ => rfl
          case ln2 => exact fun _ => rfl
          case hI => exact rfl
          case hB => exact rfl
          case lT => k_is
          case bI => exact fun _ _ => ⟨_, rfl, rfl⟩
          case bI0 => exact fun _ => ⟨_, rfl, rfl⟩
          case bIk => exact fun _ _ => ⟨_, rfl, rfl⟩
          case bB => exact fun _ => rfl
          case ns => show _ = _; decide +kernel
          case su => k_is
          case kC => k_is
          case exC => k_is
          case tyC => k_is
        case gB => refine' PySem.W.mg_of KX G ?z; (case z => k_is)
        case exm => (refine' PySem.W.exm_ref ?a ?b ?c ?d; (case a => k_is); (case b => k_is); (case c => k_is); (case d => k_is))
        case ec => (refine' ⟨⟨?a1, ?a2, ?a3, ?a4, ?a5, ?a6, ?a7, ?a8⟩, ⟨?b1, ?b2, ?b3, ?b4⟩, ?c1⟩; (case a1 => k_is); (case a2 => k_is); (case a3 => k_is); (case a4 => k_is); (case a5 => k_is); (case a6 => k_is); (case a7 => k_is); (case a8 => k_is); (case b1 => k_is); (case b2 => k_is); (case b3 => k_is); (case b4 => k_is); (case c1 => k_is))
        case own => exact Cb.kit_self rfl
        case vv => refine' Cb.kit_V ?z; (case z => k_is)
      case tg =>
        refine' ⟨?a1, ?a2, ?a3, ?a4, ?z1, ?z2, ?z3, ?z4, ?z5⟩
        case a1 =>
          refine' Cb.has KX G ?a ?l ?c ?k ?b
          (case a => k_is); (case l => k_is); (case c => k_is); (case k => k_is); (case b => exact fun _ _ _ _ _ _ us hl => match us, hl with | [_, _], _ => rfl)
        case a2 =>
          refine' Cb.has KX G ?a ?l ?c ?k ?b
          (case a => k_is); (case l => k_is); (case c => k_is); (case k => k_is); (case b => exact fun _ _ _ _ _ _ us hl => match us, hl with | [_, _], _ => rfl)
        case a3 =>
          refine' Cb.has KX G ?a ?l ?c ?k ?b
          (case a => k_is); (case l => k_is); (case c => k_is); (case k => k_is); (case b => exact fun _ _ _ _ _ _ us hl => match us, hl with | [_, _], _ => rfl)
        case a4 =>
          refine' Cb.has KX G ?a ?l ?c ?k ?b
          (case a => k_is); (case l => k_is); (case c => k_is); (case k => k_is); (case b => exact fun _ _ _ _ _ _ us hl => match us, hl with | [_, _], _ => rfl)
        case z1 => refine' PySem.W.mg_none_of KX G ?z; (case z => k_is)
        case z2 => refine' PySem.W.mg_none_of KX G ?z; (case z => k_is)
        case z3 => refine' PySem.W.mg_none_of KX G ?z; (case z => k_is)
        case z4 => refine' PySem.W.mg_none_of KX G ?z; (case z => k_is)
        case z5 => refine' PySem.W.mg_none_of KX G ?z; (case z => k_is)
      case tl =>
        refine' ⟨?tw, ?d0, ?d1, ?d2, ?d3, ?d4, ?g1, ?g2⟩
        case d0 =>
          refine' Cb.has KX G ?a ?l ?c ?k ?b
          (case a => k_is); (case l => k_is); (case c => k_is); (case k => k_is); (case b => exact fun _ _ _ _ _ _ us hl => match us, hl with | [_, _], _ => rfl)
        case d1 =>
          refine' Cb.has KX G ?a ?l ?c ?k ?b
          (case a => k_is); (case l => k_is); (case c => k_is); (case k => k_is); (case b => exact fun _ _ _ _ _ _ us hl => match us, hl with | [_, _], _ => rfl)
        case d2 =>
          refine' Cb.has KX G ?a ?l ?c ?k ?b
          (case a => k_is); (case l => k_is); (case c => k_is); (case k => k_is); (case b => exact fun _ _ _ _ _ _ us hl => match us, hl with | [_, _], _ => rfl)
        case d3 =>
          refine' Cb.has KX G ?a ?l ?c ?k ?b
          (case a => k_is); (case l => k_is); (case c => k_is); (case k => k_is); (case b => exact fun _ _ _ _ _ _ us hl => match us, hl with | [_], _ => rfl)
        case d4 =>
          refine' Cb.has KX G ?a ?l ?c ?k ?b
          (case a => k_is); (case l => k_is); (case c => k_is); (case k => k_is); (case b => exact fun _ _ _ _ _ _ us hl => match us, hl with | [_], _ => rfl)
        case g1 => refine' Cb.str_mk KX G ?e; (case e => k_is)
        case g2 => refine' Cb.num_mk KX G ?e; (case e => k_is)
        case tw =>
          refine' ⟨?c1, ?c2, ?c3, ?c4, ?y1, ?y2, ?y3, ?y4, ?y5, ?m1, ?rs⟩
          case c1 =>
            refine' Cb.has KX G ?a ?l ?c ?k ?b
            (case a => k_is); (case l => k_is); (case c => k_is); (case k => k_is); (case b => exact fun _ _ _ _ _ _ us hl => match us, hl with | [_], _ => rfl)
          case c2 =>
            refine' Cb.has KX G ?a ?l ?c ?k ?b
            (case a => k_is); (case l => k_is); (case c => k_is); (case k => k_is); (case b => exact fun _ _ _ _ _ _ us hl => match us, hl with | [_], _ => rfl)
          case c3 =>
            refine' Cb.has KX G ?a ?l ?c ?k ?b
            (case a => k_is); (case l => k_is); (case c => k_is); (case k => k_is); (case b => exact fun _ _ _ _ _ _ us hl => match us, hl with | [_], _ => rfl)
          case c4 =>
            refine' Cb.has KX G ?a ?l ?c ?k ?b
            (case a => k_is); (case l => k_is); (case c => k_is); (case k => k_is); (case b => exact fun _ _ _ _ _ _ us hl => match us, hl with | [_], _ => rfl)
          case y1 => refine' PySem.W.mg_none_of KX G ?z; (case z => k_is)
          case y2 => refine' PySem.W.mg_none_of KX G ?z; (case z => k_is)
          case y3 => refine' PySem.W.mg_none_of KX G ?z; (case z => k_is)
          case y4 => refine' PySem.W.mg_none_of KX G ?z; (case z => k_is)
          case y5 => refine' PySem.W.mg_none_of KX G ?z; (case z => k_is)
          case m1 => refine' Cb.num_mk KX G ?e; (case e => k_is)
          case rs =>
            refine' ⟨_, _, _, PySem.W.mg_of KX G ?z, ⟨?at_, ?lit, ?low⟩, ?s⟩
            (case z => k_is); (case at_ => k_is)
            case lit => exact ⟨⟨_, _, rfl, rfl⟩, ⟨_, _, rfl, rfl⟩, ⟨_, _, rfl, rfl⟩, ⟨_, _, rfl, rfl⟩, ⟨_, _, rfl, rfl⟩, ⟨_, _, rfl, rfl⟩, ⟨_, _, rfl, rfl⟩, ⟨_, _, rfl, rfl⟩, ⟨_, _, rfl, rfl⟩, ⟨_, _, rfl, rfl⟩, ⟨_, _, rfl, rfl⟩, ⟨_, _, rfl, rfl⟩, ⟨_, _, rfl, rfl⟩, ⟨_, _, rfl, rfl⟩, ⟨_, _, rfl, rfl⟩, ⟨_, _, rfl, rfl⟩, ⟨_, _, rfl, rfl⟩, ⟨_, _, rfl, rfl⟩, ⟨_, _, rfl, rfl⟩, ⟨_, _, rfl, rfl⟩, ⟨_, _, rfl, rfl⟩, ⟨_, _, rfl, rfl⟩, ⟨_, _, rfl, rfl⟩, ⟨_, _, rfl, rfl⟩, ⟨_, _, rfl, rfl⟩, trivial⟩
            case low => rfl
            case s =>
              refine' Cb.res_mk ?l ?k
              (case l => k_is)
              case k => exact .cons rfl rfl (.cons rfl rfl (.cons rfl rfl (.cons rfl rfl (.cons rfl rfl (.cons rfl rfl (.cons rfl rfl (.cons rfl rfl (.cons rfl rfl (.cons rfl rfl (.cons rfl rfl (.cons rfl rfl (.cons rfl rfl (.cons rfl rfl (.cons rfl rfl (.cons rfl rfl (.cons rfl rfl (.cons rfl rfl (.cons rfl rfl (.cons rfl rfl (.cons rfl rfl (.cons rfl rfl (.cons rfl rfl (.cons rfl rfl (.cons rfl rfl (.nil)))))))))))))))))))))))))
